/- Walks: spotterref: isIns. -/
import Derived.Test.YtcboiapggnmpfaaGreatQb
namespace Go.Proofs.YtcboiapggnmpfaaGreat
open Go.RowKit
set_option linter.unusedSimpArgs false
set_option linter.unusedVariables false
/-- A step that is known by its number, with no test of its own to be asked. -/
def PlainOp (q : Int) : Prop := ∀ (x y a b c d e f g h i j k n : Int) (w : World),
    Calls Tryz.prog 101 #[insV ⟨q, x, y, ⟨⟨a, b, c⟩, d, ⟨e, f, g⟩, h, ⟨i, j, k⟩⟩⟩, .int .i64 n] w fun en w' => en = .returned (.bool (insIsB ⟨q, x, y, ⟨⟨a, b, c⟩, d, ⟨e, f, g⟩, h, ⟨i, j, k⟩⟩⟩ n)) ∧ Nw w w'
set_option maxRecDepth 100000 in
set_option maxHeartbeats 1000000 in
theorem isInsR_q0 : PlainOp 0 := by
  intro x y a b c d e f g h i j k n w
  unfold insV
  go_enter Tryz.func101, Tryz.ntmps101
  go_wp2
  all_goals go_ret
  all_goals refine ⟨ret_b ?_, (Kp.refl _ _).alloc _⟩
  all_goals (rw [Bool.eq_iff_iff]; simp [insIsB, hiOf, tst0B, tm0B] at *; try omega)
set_option maxRecDepth 100000 in
set_option maxHeartbeats 1000000 in
theorem isInsR_q1 : PlainOp 1 := by
  intro x y a b c d e f g h i j k n w
  unfold insV
  go_enter Tryz.func101, Tryz.ntmps101
  go_wp2
  all_goals go_ret
  all_goals refine ⟨ret_b ?_, (Kp.refl _ _).alloc _⟩
  all_goals (rw [Bool.eq_iff_iff]; simp [insIsB, hiOf, tst0B, tm0B] at *; try omega)
set_option maxRecDepth 100000 in
set_option maxHeartbeats 1000000 in
theorem isInsR_q3 : PlainOp 3 := by
  intro x y a b c d e f g h i j k n w
  unfold insV
  go_enter Tryz.func101, Tryz.ntmps101
  go_wp2
  all_goals go_ret
  all_goals refine ⟨ret_b ?_, (Kp.refl _ _).alloc _⟩
  all_goals (rw [Bool.eq_iff_iff]; simp [insIsB, hiOf, tst0B, tm0B] at *; try omega)
set_option maxRecDepth 100000 in
set_option maxHeartbeats 1000000 in
theorem isInsR_q4 : PlainOp 4 := by
  intro x y a b c d e f g h i j k n w
  unfold insV
  go_enter Tryz.func101, Tryz.ntmps101
  go_wp2
  all_goals go_ret
  all_goals refine ⟨ret_b ?_, (Kp.refl _ _).alloc _⟩
  all_goals (rw [Bool.eq_iff_iff]; simp [insIsB, hiOf, tst0B, tm0B] at *; try omega)
set_option maxRecDepth 100000 in
set_option maxHeartbeats 1000000 in
theorem isInsR_q5 : PlainOp 5 := by
  intro x y a b c d e f g h i j k n w
  unfold insV
  go_enter Tryz.func101, Tryz.ntmps101
  go_wp2
  all_goals go_ret
  all_goals refine ⟨ret_b ?_, (Kp.refl _ _).alloc _⟩
  all_goals (rw [Bool.eq_iff_iff]; simp [insIsB, hiOf, tst0B, tm0B] at *; try omega)
set_option maxRecDepth 100000 in
set_option maxHeartbeats 1000000 in
theorem isInsR_q6 : PlainOp 6 := by
  intro x y a b c d e f g h i j k n w
  unfold insV
  go_enter Tryz.func101, Tryz.ntmps101
  go_wp2
  all_goals go_ret
  all_goals refine ⟨ret_b ?_, (Kp.refl _ _).alloc _⟩
  all_goals (rw [Bool.eq_iff_iff]; simp [insIsB, hiOf, tst0B, tm0B] at *; try omega)
set_option maxRecDepth 100000 in
set_option maxHeartbeats 1000000 in
theorem isInsR_q2 : PlainOp 2 := by
  intro x y a b c d e f g h i j k n w
  unfold insV
  generalize hT : tstIsB ⟨⟨a, b, c⟩, d, ⟨e, f, g⟩, h, ⟨i, j, k⟩⟩ = T
  go_enter Tryz.func101, Tryz.ntmps101
  go_wp2_with (go_at_call 155; refine (isTestR_any a b c d e f g h i j k _).mono ?_; rw [hT]; rintro e1 w1 ⟨rfl, k1⟩)
  all_goals go_ret
  all_goals refine ⟨ret_b ?_, ((Kp.refl _ w).alloc _).trans k1⟩
  all_goals (rw [Bool.eq_iff_iff]; simp only [insIsB, hT]; cases T <;> simp [hiOf] at * <;> try omega)
set_option maxRecDepth 100000 in
set_option maxHeartbeats 1000000 in
theorem isInsR_off (q : Int) (hq : q < 0 ∨ 6 < q) : PlainOp q := by
  intro x y a b c d e f g h i j k n w
  unfold insV
  go_enter Tryz.func101, Tryz.ntmps101
  rcases hq with hq | hq
  all_goals
    go_wp2
    all_goals go_ret
    all_goals refine ⟨ret_b ?_, (Kp.refl _ _).alloc _⟩
    all_goals (rw [Bool.eq_iff_iff]; simp [insIsB] at *; try omega)
theorem isInsR_any (x : In) (n : Int) (w : World) : Calls Tryz.prog 101 #[insV x, .int .i64 n] w fun en w' => en = .returned (.bool (insIsB x n)) ∧ Nw w w' := by
  obtain ⟨q, x, y, ⟨⟨a, b, c⟩, d, ⟨e, f, g⟩, h, ⟨i, j, k⟩⟩⟩ := x
  have H : PlainOp q := by
    by_cases h1 : q < 0 ∨ 6 < q
    · exact isInsR_off q h1
    · have : q = 0 ∨ q = 1 ∨ q = 2 ∨ q = 3 ∨ q = 4 ∨ q = 5 ∨ q = 6 := by omega
      rcases this with rfl | rfl | rfl | rfl | rfl | rfl | rfl
      · exact isInsR_q0
      · exact isInsR_q1
      · exact isInsR_q2
      · exact isInsR_q3
      · exact isInsR_q4
      · exact isInsR_q5
      · exact isInsR_q6
  exact H x y a b c d e f g h i j k n w
end Go.Proofs.YtcboiapggnmpfaaGreat
