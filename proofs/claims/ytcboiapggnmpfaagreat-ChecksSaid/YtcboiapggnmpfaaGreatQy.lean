/- Walks: spotterlaw: sameCode of lists that read alike, still. -/
import Derived.Test.YtcboiapggnmpfaaGreatVf
import Derived.Test.YtcboiapggnmpfaaGreatQk
import Derived.Deep.QuietTactic
namespace Go.Proofs.YtcboiapggnmpfaaGreat
open Go.RowKit
set_option linter.unusedSimpArgs false
set_option linter.unusedVariables false

set_option maxRecDepth 100000 in
set_option maxHeartbeats 1000000 in
theorem sameCode_same (p p' : Option Addr) (cap cap' : Nat) (l : List In) (w : World) (hp : CodeP w p l) (hp' : CodeP w p' l) (hm : l.length ≤ 800000000000) :
    Calls Tryz.prog 46 #[.slice p l.length cap, .slice p' l.length cap'] w fun e w' => e = .returned (.bool true) ∧ Nw w w' := by
  go_enter Tryz.func46, Tryz.ntmps46
  go_wp2
  go_loopg [5] l.length (fun m v5 wr => ∃ i : Nat, v5 = .int .i64 i ∧ m = l.length - i ∧ i ≤ l.length ∧ CodeP wr p l ∧ CodeP wr p' l ∧ Nw w wr)
  case atStart => exact ⟨0, rfl, rfl, by omega, hp, hp', Kp.refl _ _⟩
  case round =>
    obtain ⟨i, rfl, hm', hi, hc, hc', hnw⟩ := hrel
    by_cases hi' : i < l.length
    · obtain ⟨x, hx⟩ : ∃ x, l[i]? = some x := ⟨l[i], by simp [hi']⟩
      have hne : ¬ l = [] := by intro e; rw [e] at hx; simp at hx
      obtain ⟨g, rfl, hcr⟩ := hc hne
      obtain ⟨g', rfl, hcr'⟩ := hc' hne
      obtain ⟨c0, c1, c2, c3, c4, c5, c6, c7, c8, c9, c10, c11, c12, c13⟩ := (hcr.ins i x hx).cells
      obtain ⟨d0, d1, d2, d3, d4, d5, d6, d7, d8, d9, d10, d11, d12, d13⟩ := (hcr'.ins i x hx).cells
      have HP : Hid (CodeP wr (some ⟨g, 0, none⟩) l) := hc
      have HP' : Hid (CodeP wr (some ⟨g', 0, none⟩) l) := hc'
      have HK : Hid (Nw w wr) := hnw
      clear hc hc' hnw hcr hcr' hp hp'
      go_wp2
      go_quiet (fail)
      go_wp2
      go_roundg (l.length - (i + 1))
      case measure => omega
      case rel =>
        refine ⟨i + 1, by simp, rfl, by omega, HP.out.nw ?_, HP'.out.nw ?_, HK.out.trans ?_⟩ <;> exact (Kp.refl _ _).drewN _
    · go_wp2
      go_ret
      exact ⟨rfl, hnw⟩
set_option maxRecDepth 100000 in
set_option maxHeartbeats 1000000 in
/-- A list that was handed over and reads as it did, its spare room too. -/
theorem still_same (g cap : Nat) (p : Option Addr) (l : List In) (w : World) (ho : Code' w g (l ++ [mk1, mk2])) (hp : CodeP w p l) (hm : l.length ≤ 800000000000) :
    Calls Tryz.prog 67 #[.slice (some ⟨g, 0, none⟩) l.length (l.length + 2), .slice p l.length cap] w fun e w' => e = .returned (.bool true) ∧ Nw w w' := by
  have hgl : Code' w g l := by
    refine ⟨ho.lt, fun i x hx => ho.ins i x ?_⟩
    rw [List.getElem?_append_left (List.getElem?_eq_some_iff.1 hx).1]; exact hx
  have h1 : InsAt w g (l.length * 14) mk1 := ho.ins l.length mk1 (by simp)
  have h2 : InsAt w g ((l.length + 1) * 14) mk2 := ho.ins (l.length + 1) mk2 (by simp)
  go_enter Tryz.func67, Tryz.ntmps67
  go_wp2_with fail
  refine (sameCode_same (some ⟨g, 0, none⟩) p (l.length + 2) cap l w (fun _ => ⟨g, rfl, hgl⟩) hp hm).mono ?_
  rintro e w2 ⟨rfl, k2⟩
  have h1' : InsAt w2 g (l.length * 14) mk1 := fun k v hv => (k2.cell (p := ⟨g, l.length * 14 + k, none⟩) ho.lt (fun h => h)).trans (h1 k v hv)
  have h2' : InsAt w2 g ((l.length + 1) * 14) mk2 := fun k v hv => (k2.cell (p := ⟨g, (l.length + 1) * 14 + k, none⟩) ho.lt (fun h => h)).trans (h2 k v hv)
  obtain ⟨c0, c1, c2, c3, c4, c5, c6, c7, c8, c9, c10, c11, c12, c13⟩ := h1'.cells
  obtain ⟨d0, d1, d2, d3, d4, d5, d6, d7, d8, d9, d10, d11, d12, d13⟩ := h2'.cells
  simp only [mk1, mk2, tst0, tm0] at *
  clear h1 h2 h1' h2' ho hp hgl
  go_wp2
  go_ret
  exact ⟨rfl, k2⟩
end Go.Proofs.YtcboiapggnmpfaaGreat

namespace Go.Proofs.YtcboiapggnmpfaaGreat
open Go.RowKit
set_option linter.unusedSimpArgs false
set_option linter.unusedVariables false

/-- What lies in the script's world besides: the spotters, the lists of instructions that came out and what they must read as, those of matches. -/
structure Vs where
  v5 : Value
  v6 : Value
  v7 : Value
  v8 : Value
  v9 : Value
def vs0 : Vs := ⟨.slice none 0 0, .slice none 0 0, .slice none 0 0, .slice none 0 0, .slice none 0 0⟩
/-- The script's own world, in block B: schema, text, limits, the list of instructions, and what came out. -/
structure LW (w : World) (B : Nat) (s t : ByteArray) (la lb : Int) (cv : Value) (vs : Vs) : Prop where
  c0 : w.cell? ⟨B, 0, none⟩ = some (.string s)
  c1 : w.cell? ⟨B, 1, none⟩ = some (.string t)
  c2 : w.cell? ⟨B, 2, none⟩ = some (.int .i64 la)
  c3 : w.cell? ⟨B, 3, none⟩ = some (.int .i64 lb)
  c4 : w.cell? ⟨B, 4, none⟩ = some cv
  c5 : w.cell? ⟨B, 5, none⟩ = some vs.v5
  c6 : w.cell? ⟨B, 6, none⟩ = some vs.v6
  c7 : w.cell? ⟨B, 7, none⟩ = some vs.v7
  c8 : w.cell? ⟨B, 8, none⟩ = some vs.v8
  c9 : w.cell? ⟨B, 9, none⟩ = some vs.v9
  fz : ∀ o, w.frozen? ⟨B, o, none⟩ = false
theorem LW.lt {w : World} {B : Nat} {s t : ByteArray} {la lb : Int} {cv : Value} {vs : Vs} (h : LW w B s t la lb cv vs) : B < w.heap.size := World.block_lt_of_cell? w ⟨B, 0, none⟩ h.c0
theorem LW.sm {w w' : World} {B : Nat} {s t : ByteArray} {la lb : Int} {cv : Value} {vs : Vs} (h : LW w B s t la lb cv vs) (k : Sm w w' B) : LW w' B s t la lb cv vs :=
  ⟨(k.cell 0).trans h.c0, (k.cell 1).trans h.c1, (k.cell 2).trans h.c2, (k.cell 3).trans h.c3, (k.cell 4).trans h.c4, (k.cell 5).trans h.c5, (k.cell 6).trans h.c6, (k.cell 7).trans h.c7, (k.cell 8).trans h.c8, (k.cell 9).trans h.c9, fun o => (k.froz o).trans (h.fz o)⟩
theorem LW.nw {w w' : World} {B : Nat} {s t : ByteArray} {la lb : Int} {cv : Value} {vs : Vs} (h : LW w B s t la lb cv vs) (k : Nw w w') : LW w' B s t la lb cv vs := h.sm (k.sm h.lt (fun h => h))
/-- What else a script holds: the spotters and what came out; the blocks of F are theirs. -/
structure Oth where
  P : Vs → (Nat → Prop) → Nat → World → Prop
  keep : ∀ {vs : Vs} {F : Nat → Prop} {n : Nat} {w w' : World} {S : Nat → Prop}, P vs F n w → Kp S w w' → (∀ b, S b → ¬ F b) → P vs F n w'
  lt : ∀ {vs : Vs} {F : Nat → Prop} {n : Nat} {w : World} {b : Nat}, P vs F n w → F b → b < w.heap.size
  up : ∀ {vs : Vs} {F : Nat → Prop} {n : Nat} {w : World}, P vs F n w → P vs F (n + 1) w
  start : ∀ w : World, P vs0 (fun _ => False) 0 w
/-- Nothing has come out. -/
def Oth.no : Oth where
  P vs F _ _ := vs = vs0 ∧ ∀ b, ¬ F b
  keep h _ _ := h
  lt h hb := absurd hb (h.2 _)
  up h := h
  start _ := ⟨rfl, fun _ h => h⟩
theorem marks_none (B : Nat) (s t : ByteArray) (la lb : Int) (cv : Value) (k : Int) (w : World) (h : LW w B s t la lb cv vs0) :
    Calls Tryz.prog 63 #[.pointer (some ⟨B, 0, none⟩), .int .i64 k] w fun e w' => e = .returned (.tuple #[]) ∧ w' = w := by
  obtain ⟨c0, c1, c2, c3, c4, c5, c6, c7, c8, c9, fz⟩ := h
  simp only [vs0] at c5 c6 c7 c8 c9
  go_enter Tryz.func63, Tryz.ntmps63
  go_wp2
  go_end0
  exact ⟨rfl, rfl⟩
set_option maxHeartbeats 1000000 in
theorem looks_none (B : Nat) (s t : ByteArray) (la lb : Int) (cv : Value) (w : World) (h : LW w B s t la lb cv vs0) :
    Calls Tryz.prog 15 #[.pointer (some ⟨B, 0, none⟩)] w fun e w' => e = .returned (.bool true) ∧ w' = w := by
  obtain ⟨c0, c1, c2, c3, c4, c5, c6, c7, c8, c9, fz⟩ := h
  simp only [vs0] at c5 c6 c7 c8 c9
  go_enter Tryz.func15, Tryz.ntmps15
  go_wp2
  go_loopg [3] 0 (fun m v3 wr => v3 = .int .i64 0 ∧ wr = w)
  case atStart => exact ⟨rfl, rfl⟩
  case round =>
    obtain ⟨rfl, rfl⟩ := hrel
    go_wp2
    go_loopg [5] 0 (fun m v5 wr2 => v5 = .int .i64 0 ∧ wr2 = wr)
    case atStart => exact ⟨rfl, rfl⟩
    case round =>
      obtain ⟨rfl, rfl⟩ := hrel
      go_wp2
      go_ret
      exact ⟨rfl, rfl⟩
end Go.Proofs.YtcboiapggnmpfaaGreat
