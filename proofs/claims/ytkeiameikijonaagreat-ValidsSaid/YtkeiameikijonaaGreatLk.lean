/- Walks: spotterlaw: a script of Valids. -/
import Derived.Test.YtkeiameikijonaaGreatLj
namespace Go.Proofs.YtkeiameikijonaaGreat
open Go.RowKit
set_option linter.unusedSimpArgs false
set_option linter.unusedVariables false

def OprAt (w : World) (b o : Nat) (x : Opr) : Prop := ∀ k v, (opC x)[k]? = some v → w.cell? ⟨b, o + k, none⟩ = some v
/-- The script's steps lie in block g, from cell z on. -/
structure Ops (w : World) (g z : Nat) (os : List Opr) : Prop where
  lt : g < w.heap.size
  ops : ∀ (i : Nat) x, os[i]? = some x → OprAt w g (z + i * 23) x
theorem Ops.kp {S : Nat → Prop} {w w' : World} {g z : Nat} {os : List Opr} (h : Ops w g z os) (k : Kp S w w') (hs : ¬ S g) : Ops w' g z os :=
  ⟨Nat.lt_of_lt_of_le h.lt k.size, fun i x hx j v hv => (k.cell (p := ⟨g, z + i * 23 + j, none⟩) h.lt hs).trans (h.ops i x hx j v hv)⟩
def OpsP (w : World) (p : Option Addr) (os : List Opr) : Prop := ¬ os = [] → ∃ g z, p = some ⟨g, z, none⟩ ∧ Ops w g z os
theorem LSE.start (w : World) : LSE (w.alloc (.cells #[.string ⟨#[]⟩, .string ⟨#[]⟩, .int .i64 0, .int .i64 0, .slice none 0 0, .slice none 0 0, .slice none 0 0, .slice none 0 0, .slice none 0 0, .slice none 0 0] 33)) w.heap.size 0 := by
  refine ⟨⟨#[]⟩, ⟨#[]⟩, 0, 0, .slice none 0 0, [], ⟨?_, World.ownsRow_nil _ _ _ _, by simp, by simp [ByteArray.size, maxLen], by simp [ByteArray.size, maxLen]⟩⟩
  constructor <;> simp [go_sem, World.cell?_alloc_at, World.frozen?_alloc_at]
theorem LSE.looks {w : World} {B n : Nat} (h : LSE w B n) : Calls Tryz.prog 9 #[.pointer (some ⟨B, 0, none⟩)] w fun e w' => e = .returned (.bool true) ∧ w' = w := by
  obtain ⟨s, t, la, lb, cv, l, h⟩ := h
  exact looks_none B s t la lb cv w h.lw
set_option maxRecDepth 100000 in
set_option maxHeartbeats 1000000 in
theorem playsV (hC : CompileOk) (p : Option Addr) (cap : Nat) (os : List Opr) (w : World) (hp : OpsP w p os) (hf : ∀ o ∈ os, o.Fit) (hm : os.length ≤ 740000000000) :
    Calls Tryz.prog 7 #[.slice p os.length cap, .int .i64 11, .int .i64 11, .int .i64 11] w fun e w' => e = .returned (.bool true) ∧ Nw w w' := by
  go_enter Tryz.func7, Tryz.ntmps7
  go_wp2
  go_loopg [10] os.length (fun m v10 wr => ∃ i : Nat, v10 = .int .i64 i ∧ m = os.length - i ∧ i ≤ os.length ∧ LSE wr w.heap.size i ∧ Kp (fun b => w.heap.size ≤ b) w wr)
  case atStart => exact ⟨0, rfl, rfl, by omega, LSE.start w, (Kp.refl _ w).alloc _⟩
  case round =>
    obtain ⟨i, rfl, hm', hi, hL, hK⟩ := hrel
    have HL : Hid (LSE wr w.heap.size i) := hL
    have HK : Hid (Kp (fun b => w.heap.size ≤ b) w wr) := hK
    clear hL hK
    by_cases hi' : i < os.length
    · obtain ⟨x, hx⟩ : ∃ x, os[i]? = some x := ⟨os[i], by simp [hi']⟩
      have hne : ¬ os = [] := by intro e; rw [e] at hx; simp at hx
      obtain ⟨g, z, rfl, ho⟩ := hp hne
      have ho2 : Ops wr g z os := ho.kp HK.out (by have := ho.lt; omega)
      have c0 : wr.cell? ⟨g, z + i * 23, none⟩ = some (.int .i64 x.kind) := ho2.ops i x hx 0 _ rfl
      have HR : Hid (wr.rangeAt g (z + i * 23) (opC x)) := ho2.ops i x hx
      have hfx : x.Fit := hf x (List.mem_of_getElem? hx)
      have HX : Hid (x.Fit) := hfx
      have hi3 : i ≤ 740000000000 := by omega
      clear ho ho2 hp hx hfx
      by_cases h9 : 9 ≤ x.kind ∧ ¬ x.kind = 11
      · obtain ⟨h9, h11⟩ := h9
        have h11' : (x.kind != 11) = true := by simp [h11]
        go_wp2
        go_roundg (os.length - (i + 1))
        case measure => omega
        case rel => exact ⟨i + 1, by simp, rfl, by omega, HL.out.up, HK.out⟩
      · have hst : Hid (Calls Tryz.prog 8 #[.pointer (some ⟨w.heap.size, 0, none⟩), opV x] wr (OwnPost wr w.heap.size (i + 1) true)) := by
          by_cases h1 : x.kind < 1
          · exact (step_low _ i x wr HL.out h1).mono (fun _ _ h => h.up)
          · by_cases h8 : x.kind ≤ 8
            · exact step_own hC _ i x wr HL.out (by omega) h8 HX.out hi3
            · exact (step_valid _ i x wr HL.out (by omega) hi3).mono (fun _ _ h => h.up)
        have hcase : x.kind < 9 ∨ x.kind = 11 := by omega
        clear h9
        obtain ⟨d, hu, hd⟩ := Option.map_eq_some_iff.1 Tryz.row43
        have HU : Hid (Tryz.prog.underlying 43 = some d) := hu
        have HD : Hid (d.isRow = true) := hd
        clear hu hd
        have hcc : (x.kind < 9 ∧ wr.cell? ⟨g, z + i * 23, none⟩ = some (.int .i64 x.kind)) ∨ wr.cell? ⟨g, z + i * 23, none⟩ = some (.int .i64 11) := by
          rcases hcase with h9 | h9
          · exact Or.inl ⟨h9, c0⟩
          · exact Or.inr (by rw [c0, h9])
        clear hcase c0
        rcases hcc with ⟨h9, c0⟩ | c0
        all_goals
          go_wp2_with (first | (with_reducible (show Go.wpList _ _ _ ({ dst := _, op := Op.load _ _, type := _, pos := _, after := _, guard := _ } :: _) _ _); refine wpList_load_mid rfl 43 _ rfl g (z + i * 23) rfl (opC x) d HR.out HU.out HD.out (sizeO x) ?_) | fail)
          refine hst.out.mono ?_
          rintro e w1 ⟨rfl, h1, k1⟩
          have L1 : Hid (LSE w1 w.heap.size (i + 1)) := h1
          have K1 : Hid (Kp (fun b => w.heap.size ≤ b) w w1) := HK.out.trans k1
          clear h1 k1 HR
          clear c0
          go_wp2_with fail
          refine L1.out.looks.mono ?_
          rintro e w2 ⟨rfl, rfl⟩
          go_wp2
          go_roundg (os.length - (i + 1))
          case measure => omega
          case rel => exact ⟨i + 1, by simp, rfl, by omega, L1.out, K1.out⟩
    · go_wp2
      go_ret
      exact ⟨rfl, HK.out.mono (fun b hb e => by omega)⟩
theorem validsV (hC : CompileOk) (p : Option Addr) (cap : Nat) (os : List Opr) (w : World) (hp : OpsP w p os) (hf : ∀ o ∈ os, o.Fit) (hm : os.length ≤ 740000000000) :
    Calls Tryz.prog 5 #[.slice p os.length cap] w fun e w' => e = .returned (.bool true) ∧ Nw w w' := by
  go_enter Tryz.func5, Tryz.ntmps5
  go_wp2_with fail
  refine (playsV hC p cap os w hp hf hm).mono ?_
  rintro e w1 ⟨rfl, k1⟩
  go_wp2
  go_ret
  exact ⟨rfl, k1⟩
end Go.Proofs.YtkeiameikijonaaGreat
