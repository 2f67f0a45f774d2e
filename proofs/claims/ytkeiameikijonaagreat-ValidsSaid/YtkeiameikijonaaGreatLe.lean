/- Walks: spotterlaw: what a script stands at: marks, looks. -/
import Derived.Test.YtkeiameikijonaaGreatLc
namespace Go.Proofs.YtkeiameikijonaaGreat
open Go.RowKit
set_option linter.unusedSimpArgs false
set_option linter.unusedVariables false

/-- The script's own world, in block B: schema, text, limits, the list of instructions; nothing has come out, there is no spotter. -/
structure LW (w : World) (B : Nat) (s t : ByteArray) (la lb : Int) (cv : Value) : Prop where
  c0 : w.cell? ⟨B, 0, none⟩ = some (.string s)
  c1 : w.cell? ⟨B, 1, none⟩ = some (.string t)
  c2 : w.cell? ⟨B, 2, none⟩ = some (.int .i64 la)
  c3 : w.cell? ⟨B, 3, none⟩ = some (.int .i64 lb)
  c4 : w.cell? ⟨B, 4, none⟩ = some cv
  c5 : w.cell? ⟨B, 5, none⟩ = some (.slice none 0 0)
  c6 : w.cell? ⟨B, 6, none⟩ = some (.slice none 0 0)
  c7 : w.cell? ⟨B, 7, none⟩ = some (.slice none 0 0)
  c8 : w.cell? ⟨B, 8, none⟩ = some (.slice none 0 0)
  c9 : w.cell? ⟨B, 9, none⟩ = some (.slice none 0 0)
  fz : ∀ o, w.frozen? ⟨B, o, none⟩ = false
theorem LW.lt {w : World} {B : Nat} {s t : ByteArray} {la lb : Int} {cv : Value} (h : LW w B s t la lb cv) : B < w.heap.size := World.block_lt_of_cell? w ⟨B, 0, none⟩ h.c0
theorem LW.sm {w w' : World} {B : Nat} {s t : ByteArray} {la lb : Int} {cv : Value} (h : LW w B s t la lb cv) (k : Sm w w' B) : LW w' B s t la lb cv :=
  ⟨(k.cell 0).trans h.c0, (k.cell 1).trans h.c1, (k.cell 2).trans h.c2, (k.cell 3).trans h.c3, (k.cell 4).trans h.c4, (k.cell 5).trans h.c5, (k.cell 6).trans h.c6, (k.cell 7).trans h.c7, (k.cell 8).trans h.c8, (k.cell 9).trans h.c9, fun o => (k.froz o).trans (h.fz o)⟩
theorem LW.nw {w w' : World} {B : Nat} {s t : ByteArray} {la lb : Int} {cv : Value} (h : LW w B s t la lb cv) (k : Nw w w') : LW w' B s t la lb cv := h.sm (k.sm h.lt (fun h => h))
theorem marks_none (B : Nat) (s t : ByteArray) (la lb : Int) (cv : Value) (k : Int) (w : World) (h : LW w B s t la lb cv) :
    Calls Tryz.prog 26 #[.pointer (some ⟨B, 0, none⟩), .int .i64 k] w fun e w' => e = .returned (.tuple #[]) ∧ w' = w := by
  obtain ⟨c0, c1, c2, c3, c4, c5, c6, c7, c8, c9, fz⟩ := h
  go_enter Tryz.func26, Tryz.ntmps26
  go_wp2
  go_end0
  exact ⟨rfl, rfl⟩
set_option maxHeartbeats 1000000 in
theorem looks_none (B : Nat) (s t : ByteArray) (la lb : Int) (cv : Value) (w : World) (h : LW w B s t la lb cv) :
    Calls Tryz.prog 9 #[.pointer (some ⟨B, 0, none⟩)] w fun e w' => e = .returned (.bool true) ∧ w' = w := by
  obtain ⟨c0, c1, c2, c3, c4, c5, c6, c7, c8, c9, fz⟩ := h
  go_enter Tryz.func9, Tryz.ntmps9
  go_wp2
  go_loopg [3] 0 (fun m v3 wr => v3 = .int .i64 0 ∧ wr = w)
  case atStart => exact ⟨rfl, rfl⟩
  case round =>
    obtain ⟨rfl, rfl⟩ := hrel
    go_wp2
    go_loopg [5] 0 (fun m v5 wr2 => v5 = .int .i64 0 ∧ wr2 = wr)
    case atStart => exact ⟨rfl, rfl⟩
    case round =>
      obtain ⟨rfl, rfl⟩ := hrel
      go_wp2
      go_ret
      exact ⟨rfl, rfl⟩
end Go.Proofs.YtkeiameikijonaaGreat
