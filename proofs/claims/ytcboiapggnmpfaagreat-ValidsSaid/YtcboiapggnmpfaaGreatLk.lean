/- Walks: spotterlaw: a script. -/
import Derived.Test.YtcboiapggnmpfaaGreatLj
namespace Go.Proofs.YtcboiapggnmpfaaGreat
open Go.RowKit
set_option linter.unusedSimpArgs false
set_option linter.unusedVariables false

def OprAt (w : World) (b o : Nat) (x : Opr) : Prop := ∀ k v, (opC x)[k]? = some v → w.cell? ⟨b, o + k, none⟩ = some v
/-- The script's steps lie in block g, from cell z on. -/
structure Ops (w : World) (g z : Nat) (os : List Opr) : Prop where
  lt : g < w.heap.size
  ops : ∀ (i : Nat) x, os[i]? = some x → OprAt w g (z + i * 23) x
theorem Ops.kp {S : Nat → Prop} {w w' : World} {g z : Nat} {os : List Opr} (h : Ops w g z os) (k : Kp S w w') (hs : ¬ S g) : Ops w' g z os :=
  ⟨Nat.lt_of_lt_of_le h.lt k.size, fun i x hx j v hv => (k.cell (p := ⟨g, z + i * 23 + j, none⟩) h.lt hs).trans (h.ops i x hx j v hv)⟩
def OpsP (w : World) (p : Option Addr) (os : List Opr) : Prop := ¬ os = [] → ∃ g z, p = some ⟨g, z, none⟩ ∧ Ops w g z os
theorem LSE.start (X : Oth) (w : World) : LSE X (w.alloc (.cells #[.string ⟨#[]⟩, .string ⟨#[]⟩, .int .i64 0, .int .i64 0, .slice none 0 0, .slice none 0 0, .slice none 0 0, .slice none 0 0, .slice none 0 0, .slice none 0 0] 33)) w.heap.size 0 := by
  refine ⟨⟨#[]⟩, ⟨#[]⟩, 0, 0, .slice none 0 0, [], vs0, fun _ => False, ⟨?_, World.ownsRow_nil _ _ _ _, by simp, by simp [ByteArray.size, maxLen], by simp [ByteArray.size, maxLen], X.start _, fun _ h => False.elim h, fun _ h => by simp [Value.ownBlock] at h⟩⟩
  constructor <;> simp [go_sem, World.cell?_alloc_at, World.frozen?_alloc_at, vs0]
theorem LSE.looks {X : Oth} (hL : LooksOk X) {w : World} {B n : Nat} (h : LSE X w B n) (hn : n ≤ 740000000001) : Calls Tryz.prog 15 #[.pointer (some ⟨B, 0, none⟩)] w fun e w' => e = .returned (.bool true) ∧ Nw w w' := by
  obtain ⟨s, t, la, lb, cv, l, vs, F, h⟩ := h
  exact hL B n s t la lb cv l vs F w h hn
/-- What is asked of the steps of three kinds. -/
def StepsOk (X : Oth) (a b c : Int) : Prop := ∀ (B n : Nat) (o : Opr) (w : World), LSE X w B n → (o.kind = a ∨ o.kind = b ∨ o.kind = c) → o.Fit → n ≤ 740000000000 →
  Calls Tryz.prog 14 #[.pointer (some ⟨B, 0, none⟩), opV o] w (OwnPost X w B (n + 1) true)
set_option maxRecDepth 100000 in
set_option maxHeartbeats 1000000 in
theorem plays_any (hC : CompileOk) (X : Oth) (hM : MarksOk X) (hL : LooksOk X) (a b c : Int) (hS : StepsOk X a b c) (p : Option Addr) (cap : Nat) (os : List Opr) (w : World) (hp : OpsP w p os) (hf : ∀ o ∈ os, o.Fit) (hm : os.length ≤ 740000000000) :
    Calls Tryz.prog 13 #[.slice p os.length cap, .int .i64 a, .int .i64 b, .int .i64 c] w fun e w' => e = .returned (.bool true) ∧ Nw w w' := by
  go_enter Tryz.func13, Tryz.ntmps13
  go_wp2
  go_loopg [10] os.length (fun m v10 wr => ∃ i : Nat, v10 = .int .i64 i ∧ m = os.length - i ∧ i ≤ os.length ∧ LSE X wr w.heap.size i ∧ Kp (fun b => w.heap.size ≤ b) w wr)
  case atStart => exact ⟨0, rfl, rfl, by omega, LSE.start X w, (Kp.refl _ w).alloc _⟩
  case round =>
    obtain ⟨i, rfl, hm', hi, hL', hK⟩ := hrel
    have HL : Hid (LSE X wr w.heap.size i) := hL'
    have HK : Hid (Kp (fun b => w.heap.size ≤ b) w wr) := hK
    clear hL' hK
    by_cases hi' : i < os.length
    · obtain ⟨x, hx⟩ : ∃ x, os[i]? = some x := ⟨os[i], by simp [hi']⟩
      have hne : ¬ os = [] := by intro e; rw [e] at hx; simp at hx
      obtain ⟨g, z, rfl, ho⟩ := hp hne
      have ho2 : Ops wr g z os := ho.kp HK.out (by have := ho.lt; omega)
      have c0 : wr.cell? ⟨g, z + i * 23, none⟩ = some (.int .i64 x.kind) := ho2.ops i x hx 0 _ rfl
      have HR : Hid (wr.rangeAt g (z + i * 23) (opC x)) := ho2.ops i x hx
      have hfx : x.Fit := hf x (List.mem_of_getElem? hx)
      have HX : Hid (x.Fit) := hfx
      have hi3 : i ≤ 740000000000 := by omega
      clear ho ho2 hp hx hfx
      by_cases h9 : 9 ≤ x.kind ∧ ¬ x.kind = a ∧ ¬ x.kind = b ∧ ¬ x.kind = c
      · obtain ⟨h9, h11, h12, h13⟩ := h9
        have h11' : (x.kind != a) = true := by simp [h11]
        have h12' : (x.kind != b) = true := by simp [h12]
        have h13' : (x.kind != c) = true := by simp [h13]
        clear h11 h12 h13
        go_wp2
        go_roundg (os.length - (i + 1))
        case measure => omega
        case rel => exact ⟨i + 1, by simp, rfl, by omega, HL.out.up, HK.out⟩
      · have hst : Hid (Calls Tryz.prog 14 #[.pointer (some ⟨w.heap.size, 0, none⟩), opV x] wr (OwnPost X wr w.heap.size (i + 1) true)) := by
          by_cases h1 : x.kind < 1
          · exact (step_low X _ i x wr HL.out h1).mono (fun _ _ h => h.up)
          · by_cases h8 : x.kind ≤ 8
            · exact step_own hC X hM _ i x wr HL.out (by omega) h8 HX.out hi3
            · exact hS _ i x wr HL.out (by omega) HX.out hi3
        have hcase : (decide (9 ≤ x.kind) = false) ∨ (decide (9 ≤ x.kind) = true ∧ (x.kind != a) = false) ∨ (decide (9 ≤ x.kind) = true ∧ (x.kind != a) = true ∧ (x.kind != b) = false) ∨ (decide (9 ≤ x.kind) = true ∧ (x.kind != a) = true ∧ (x.kind != b) = true ∧ (x.kind != c) = false) := by
          by_cases q : 9 ≤ x.kind
          · have qd : decide (9 ≤ x.kind) = true := decide_eq_true q
            by_cases q1 : x.kind = a
            · exact Or.inr (Or.inl ⟨qd, bne_eq_false_iff_eq.2 q1⟩)
            · by_cases q2 : x.kind = b
              · exact Or.inr (Or.inr (Or.inl ⟨qd, bne_iff_ne.2 q1, bne_eq_false_iff_eq.2 q2⟩))
              · by_cases q3 : x.kind = c
                · exact Or.inr (Or.inr (Or.inr ⟨qd, bne_iff_ne.2 q1, bne_iff_ne.2 q2, bne_eq_false_iff_eq.2 q3⟩))
                · exact absurd ⟨q, q1, q2, q3⟩ h9
          · exact Or.inl (decide_eq_false q)
        clear h9
        obtain ⟨d, hu, hd⟩ := Option.map_eq_some_iff.1 Tryz.row44
        have HU : Hid (Tryz.prog.underlying 44 = some d) := hu
        have HD : Hid (d.isRow = true) := hd
        clear hu hd
        rcases hcase with h9 | ⟨h9, q1⟩ | ⟨h9, q1, q2⟩ | ⟨h9, q1, q2, q3⟩
        all_goals
          go_wp2_with (first | (with_reducible (show Go.wpList _ _ _ ({ dst := _, op := Op.load _ _, type := _, pos := _, after := _, guard := _ } :: _) _ _); refine wpList_load_mid rfl 44 _ rfl g (z + i * 23) rfl (opC x) d HR.out HU.out HD.out (sizeO x) ?_) | fail)
          refine hst.out.mono ?_
          rintro e w1 ⟨rfl, h1, k1⟩
          have L1 : Hid (LSE X w1 w.heap.size (i + 1)) := h1
          have K1 : Hid (Kp (fun b => w.heap.size ≤ b) w w1) := HK.out.trans k1
          clear h1 k1 HR
          clear c0
          go_wp2_with fail
          refine (L1.out.looks hL (by omega)).mono ?_
          rintro e w2 ⟨rfl, k2⟩
          have L2 : Hid (LSE X w2 w.heap.size (i + 1)) := L1.out.nw k2
          have K2 : Hid (Kp (fun b => w.heap.size ≤ b) w w2) := K1.out.trans (k2.mono (fun _ _ h => False.elim h))
          clear k2
          go_wp2
          go_roundg (os.length - (i + 1))
          case measure => omega
          case rel => exact ⟨i + 1, by simp, rfl, by omega, L2.out, K2.out⟩
    · go_wp2
      go_ret
      exact ⟨rfl, HK.out.mono (fun b hb e => by omega)⟩
theorem validsV (hC : CompileOk) (p : Option Addr) (cap : Nat) (os : List Opr) (w : World) (hp : OpsP w p os) (hf : ∀ o ∈ os, o.Fit) (hm : os.length ≤ 740000000000) :
    Calls Tryz.prog 5 #[.slice p os.length cap] w fun e w' => e = .returned (.bool true) ∧ Nw w w' := by
  have hS : StepsOk Oth.no 11 11 11 := fun B n o w h hk hf hn => (step_valid Oth.no B n o w h (by omega) hn).mono (fun _ _ h => h.up)
  go_enter Tryz.func5, Tryz.ntmps5
  go_wp2_with fail
  refine (plays_any hC Oth.no marksOk_no looksOk_no 11 11 11 hS p cap os w hp hf hm).mono ?_
  rintro e w1 ⟨rfl, k1⟩
  go_wp2
  go_ret
  exact ⟨rfl, k1⟩
end Go.Proofs.YtcboiapggnmpfaaGreat
