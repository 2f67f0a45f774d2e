/- Walks: program: isInstruction. -/
import Derived.Test.YtcboiapggnmpfaaGreatVg
namespace Go.Proofs.YtcboiapggnmpfaaGreat
open Go.RowKit
set_option linter.unusedSimpArgs false
set_option linter.unusedVariables false

def PlainIn (q : Int) : Prop := ∀ (x y a b c d e f g h i j k n : Int) (w : World), 0 ≤ n → n ≤ 100000 →
    Calls Tryz.prog 171 #[insV ⟨q, x, y, ⟨⟨a, b, c⟩, d, ⟨e, f, g⟩, h, ⟨i, j, k⟩⟩⟩, .int .i64 n] w fun en w' => en = .returned (.bool (insIsB ⟨q, x, y, ⟨⟨a, b, c⟩, d, ⟨e, f, g⟩, h, ⟨i, j, k⟩⟩⟩ n)) ∧ Nw w w'
set_option maxRecDepth 100000 in
set_option maxHeartbeats 1000000 in
theorem isInsP_q0 : PlainIn 0 := by
  intro x y a b c d e f g h i j k n w hn0 hn1
  unfold insV
  go_enter Tryz.func171, Tryz.ntmps171
  go_wp2_with (go_at_call 217; refine (isWithin_any _ _ _).mono ?_; rintro e1 w1 ⟨rfl, rfl⟩)
  all_goals go_ret
  all_goals refine ⟨ret_b ?_, (Kp.refl _ _).alloc _⟩
  all_goals (rw [Bool.eq_iff_iff]; simp [insIsB, hiOf, tst0B, tm0B, withinB] at *; try omega)
set_option maxRecDepth 100000 in
set_option maxHeartbeats 1000000 in
theorem isInsP_q1 : PlainIn 1 := by
  intro x y a b c d e f g h i j k n w hn0 hn1
  unfold insV
  go_enter Tryz.func171, Tryz.ntmps171
  go_wp2_with (go_at_call 217; refine (isWithin_any _ _ _).mono ?_; rintro e1 w1 ⟨rfl, rfl⟩)
  all_goals go_ret
  all_goals refine ⟨ret_b ?_, (Kp.refl _ _).alloc _⟩
  all_goals (rw [Bool.eq_iff_iff]; simp [insIsB, hiOf, tst0B, tm0B, withinB] at *; try omega)
set_option maxRecDepth 100000 in
set_option maxHeartbeats 1000000 in
theorem isInsP_q3 : PlainIn 3 := by
  intro x y a b c d e f g h i j k n w hn0 hn1
  unfold insV
  go_enter Tryz.func171, Tryz.ntmps171
  go_wp2_with (go_at_call 217; refine (isWithin_any _ _ _).mono ?_; rintro e1 w1 ⟨rfl, rfl⟩)
  all_goals go_ret
  all_goals refine ⟨ret_b ?_, (Kp.refl _ _).alloc _⟩
  all_goals (rw [Bool.eq_iff_iff]; simp [insIsB, hiOf, tst0B, tm0B, withinB] at *; try omega)
set_option maxRecDepth 100000 in
set_option maxHeartbeats 1000000 in
theorem isInsP_q4 : PlainIn 4 := by
  intro x y a b c d e f g h i j k n w hn0 hn1
  unfold insV
  go_enter Tryz.func171, Tryz.ntmps171
  go_wp2_with (go_at_call 217; refine (isWithin_any _ _ _).mono ?_; rintro e1 w1 ⟨rfl, rfl⟩)
  all_goals go_ret
  all_goals refine ⟨ret_b ?_, (Kp.refl _ _).alloc _⟩
  all_goals (rw [Bool.eq_iff_iff]; simp [insIsB, hiOf, tst0B, tm0B, withinB] at *; try omega)
set_option maxRecDepth 100000 in
set_option maxHeartbeats 1000000 in
theorem isInsP_q5 : PlainIn 5 := by
  intro x y a b c d e f g h i j k n w hn0 hn1
  unfold insV
  go_enter Tryz.func171, Tryz.ntmps171
  go_wp2_with (go_at_call 217; refine (isWithin_any _ _ _).mono ?_; rintro e1 w1 ⟨rfl, rfl⟩)
  all_goals go_ret
  all_goals refine ⟨ret_b ?_, (Kp.refl _ _).alloc _⟩
  all_goals (rw [Bool.eq_iff_iff]; simp [insIsB, hiOf, tst0B, tm0B, withinB] at *; try omega)
set_option maxRecDepth 100000 in
set_option maxHeartbeats 1000000 in
theorem isInsP_q6 : PlainIn 6 := by
  intro x y a b c d e f g h i j k n w hn0 hn1
  unfold insV
  go_enter Tryz.func171, Tryz.ntmps171
  go_wp2_with (go_at_call 217; refine (isWithin_any _ _ _).mono ?_; rintro e1 w1 ⟨rfl, rfl⟩)
  all_goals go_ret
  all_goals refine ⟨ret_b ?_, (Kp.refl _ _).alloc _⟩
  all_goals (rw [Bool.eq_iff_iff]; simp [insIsB, hiOf, tst0B, tm0B, withinB] at *; try omega)
set_option maxRecDepth 100000 in
set_option maxHeartbeats 1000000 in
theorem isInsP_q2 : PlainIn 2 := by
  intro x y a b c d e f g h i j k n w hn0 hn1
  unfold insV
  generalize hT : tstIsB ⟨⟨a, b, c⟩, d, ⟨e, f, g⟩, h, ⟨i, j, k⟩⟩ = T
  by_cases hx : x = 0
  · subst hx
    by_cases hy : y = 0
    · subst hy
      go_enter Tryz.func171, Tryz.ntmps171
      go_wp2_with (go_at_call 216; refine (isTestP_any a b c d e f g h i j k _).mono ?_; rw [hT]; rintro e1 w1 ⟨rfl, k1⟩)
      all_goals go_ret
      all_goals refine ⟨ret_b ?_, ((Kp.refl _ w).alloc _).trans k1⟩
      all_goals (rw [Bool.eq_iff_iff]; simp only [insIsB, hT]; cases T <;> simp [hiOf] at * <;> try omega)
    · go_enter Tryz.func171, Tryz.ntmps171
      go_wp2
      all_goals go_ret
      all_goals refine ⟨ret_b ?_, (Kp.refl _ _).alloc _⟩
      all_goals (rw [Bool.eq_iff_iff]; simp only [insIsB, hT]; cases T <;> simp [hiOf] at * <;> try omega)
  · go_enter Tryz.func171, Tryz.ntmps171
    go_wp2
    all_goals go_ret
    all_goals refine ⟨ret_b ?_, (Kp.refl _ _).alloc _⟩
    all_goals (rw [Bool.eq_iff_iff]; simp only [insIsB, hT]; cases T <;> simp [hiOf] at * <;> try omega)
set_option maxRecDepth 100000 in
set_option maxHeartbeats 1000000 in
theorem isInsP_off (q : Int) (hq : q < 0 ∨ 6 < q) : PlainIn q := by
  intro x y a b c d e f g h i j k n w hn0 hn1
  unfold insV
  have hq' : Hid (q < 0 ∨ 6 < q) := hq
  have q0 : (q == 0) = false := by simp; omega
  have q1 : (q == 1) = false := by simp; omega
  have q2 : (q == 2) = false := by simp; omega
  have q3 : (q == 3) = false := by simp; omega
  have q4 : (q == 4) = false := by simp; omega
  have q5 : (q == 5) = false := by simp; omega
  have q6 : (q == 6) = false := by simp; omega
  clear hq
  go_enter Tryz.func171, Tryz.ntmps171
  go_wp2
  all_goals go_ret
  all_goals refine ⟨ret_b ?_, (Kp.refl _ _).alloc _⟩
  all_goals (have hq := hq'.out; rw [Bool.eq_iff_iff]; simp [insIsB]; omega)
theorem isInsP_any (x : In) (n : Int) (w : World) (h0 : 0 ≤ n) (h1 : n ≤ 100000) : Calls Tryz.prog 171 #[insV x, .int .i64 n] w fun en w' => en = .returned (.bool (insIsB x n)) ∧ Nw w w' := by
  obtain ⟨q, x, y, ⟨⟨a, b, c⟩, d, ⟨e, f, g⟩, h, ⟨i, j, k⟩⟩⟩ := x
  have H : PlainIn q := by
    by_cases h1 : q < 0 ∨ 6 < q
    · exact isInsP_off q h1
    · have : q = 0 ∨ q = 1 ∨ q = 2 ∨ q = 3 ∨ q = 4 ∨ q = 5 ∨ q = 6 := by omega
      rcases this with rfl | rfl | rfl | rfl | rfl | rfl | rfl
      · exact isInsP_q0
      · exact isInsP_q1
      · exact isInsP_q2
      · exact isInsP_q3
      · exact isInsP_q4
      · exact isInsP_q5
      · exact isInsP_q6
  exact H x y a b c d e f g h i j k n w h0 h1
end Go.Proofs.YtcboiapggnmpfaaGreat
