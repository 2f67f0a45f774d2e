/- Walks: program: which instructions are one. -/
import Derived.Test.YtcboiapggnmpfaaGreatQb
import Derived.Test.YtcboiapggnmpfaaGreatQa
namespace Go.Proofs.YtcboiapggnmpfaaGreat
open Go.RowKit
set_option linter.unusedSimpArgs false
set_option linter.unusedVariables false

def withinB (n m : Int) : Bool := decide (0 ≤ n) && decide (n ≤ m)
theorem isWithin_any (n m : Int) (w : World) :
    Calls Tryz.prog 217 #[.int .i64 n, .int .i64 m] w fun e w' => e = .returned (.bool (withinB n m)) ∧ w' = w := by
  go_enter Tryz.func217, Tryz.ntmps217
  go_wp2
  all_goals
    go_ret
    exact ⟨ret_b (by rw [Bool.eq_iff_iff]; simp [withinB] at *; try omega), rfl⟩
theorem goesOnBehind_any (n : Int) (w : World) :
    Calls Tryz.prog 172 #[.int .i64 n] w fun e w' => e = .returned (.bool (!(decide (n = 4) || decide (n = 5) || decide (n = 6)))) ∧ w' = w := by
  go_enter Tryz.func172, Tryz.ntmps172
  go_wp2
  all_goals
    go_ret
    exact ⟨ret_b (by rw [Bool.eq_iff_iff]; simp at *; try omega), rfl⟩
set_option maxHeartbeats 1000000 in
theorem isTermP_any (a b c : Int) (w : World) :
    Calls Tryz.prog 235 #[.agg #[.int .i64 a, .int .i64 b, .int .i64 c]] w fun e w' => e = .returned (.bool (tmIsB ⟨a, b, c⟩)) ∧ Nw w w' := by
  generalize hA : withinB a 5 = A
  generalize hB : withinB b 3 = B
  go_enter Tryz.func235, Tryz.ntmps235
  go_wp2_with (go_at_call 217; refine (isWithin_any _ _ _).mono ?_; (first | rw [hA] | rw [hB]); rintro e1 w1 ⟨rfl, rfl⟩)
  all_goals go_ret
  all_goals refine ⟨ret_b ?_, (Kp.refl _ _).alloc _⟩
  all_goals (subst hA; subst hB; rw [Bool.eq_iff_iff]; simp [tmIsB, withinB] at *; try omega)
set_option maxRecDepth 100000 in
set_option maxHeartbeats 1000000 in
theorem isTestP_any (a b c d e f g h i j k : Int) (w : World) :
    Calls Tryz.prog 216 #[.agg #[.int .i64 a, .int .i64 b, .int .i64 c, .int .i64 d, .int .i64 e, .int .i64 f, .int .i64 g, .int .i64 h, .int .i64 i, .int .i64 j, .int .i64 k]] w fun en w' => en = .returned (.bool (tstIsB ⟨⟨a, b, c⟩, d, ⟨e, f, g⟩, h, ⟨i, j, k⟩⟩)) ∧ Nw w w' := by
  generalize hT1 : tmIsB ⟨a, b, c⟩ = T1
  generalize hT2 : tmIsB ⟨e, f, g⟩ = T2
  generalize hT3 : tmIsB ⟨i, j, k⟩ = T3
  have hfin : Hid (tstIsB ⟨⟨a, b, c⟩, d, ⟨e, f, g⟩, h, ⟨i, j, k⟩⟩ = (T1 && T2 && T3 && (!decide (h = 0) || tm0B ⟨i, j, k⟩) && withinB d 3 && withinB h 3)) := by
    show _ = _
    simp only [tstIsB, hT1, hT2, hT3, withinB]
    clear hT1 hT2 hT3
    generalize tm0B ⟨i, j, k⟩ = Z
    rw [Bool.eq_iff_iff]; cases T1 <;> cases T2 <;> cases T3 <;> cases Z <;> simp <;> omega
  have H1 : Hid (tmIsB ⟨a, b, c⟩ = T1) := hT1
  have H2 : Hid (tmIsB ⟨e, f, g⟩ = T2) := hT2
  have H3 : Hid (tmIsB ⟨i, j, k⟩ = T3) := hT3
  clear hT1 hT2 hT3
  generalize hR : withinB d 3 = R at hfin
  generalize hH : withinB h 3 = S at hfin
  by_cases hM : h = 0 ∧ ¬ (i = 0 ∧ j = 0 ∧ k = 0)
  · obtain ⟨rfl, hM⟩ := hM
    have hf2 : Hid (tstIsB ⟨⟨a, b, c⟩, d, ⟨e, f, g⟩, 0, ⟨i, j, k⟩⟩ = false) := by
      show _ = _
      rw [hfin.out]
      have : tm0B ⟨i, j, k⟩ = false := by rw [Bool.eq_false_iff]; intro hc; simp [tm0B] at hc; exact hM (by omega)
      simp [this]
    by_cases hi : i = 0
    · subst hi
      by_cases hj : j = 0
      · subst hj
        have hk : ¬ k = 0 := fun e => hM ⟨rfl, rfl, e⟩
        go_enter Tryz.func216, Tryz.ntmps216
        go_wp2_with (go_at_call 217; refine (isWithin_any _ _ _).mono ?_; (first | rw [hR] | rw [hH]); rintro e1 w1 ⟨rfl, rfl⟩)
        all_goals go_ret
        all_goals exact ⟨ret_b hf2.out.symm, (Kp.refl _ _).alloc _⟩
      · go_enter Tryz.func216, Tryz.ntmps216
        go_wp2_with (go_at_call 217; refine (isWithin_any _ _ _).mono ?_; (first | rw [hR] | rw [hH]); rintro e1 w1 ⟨rfl, rfl⟩)
        all_goals go_ret
        all_goals exact ⟨ret_b hf2.out.symm, (Kp.refl _ _).alloc _⟩
    · go_enter Tryz.func216, Tryz.ntmps216
      go_wp2_with (go_at_call 217; refine (isWithin_any _ _ _).mono ?_; (first | rw [hR] | rw [hH]); rintro e1 w1 ⟨rfl, rfl⟩)
      all_goals go_ret
      all_goals exact ⟨ret_b hf2.out.symm, (Kp.refl _ _).alloc _⟩
  · have hf3 : Hid (tstIsB ⟨⟨a, b, c⟩, d, ⟨e, f, g⟩, h, ⟨i, j, k⟩⟩ = (T1 && T2 && T3 && R && S)) := by
      show _ = _
      rw [hfin.out]
      have : (!decide (h = 0) || tm0B ⟨i, j, k⟩) = true := by simp [tm0B]; omega
      rw [this]; simp
    clear hfin
    cases R with
    | false =>
      go_enter Tryz.func216, Tryz.ntmps216
      go_wp2_with (go_at_call 217; refine (isWithin_any _ _ _).mono ?_; (first | rw [hR] | rw [hH]); rintro e1 w1 ⟨rfl, rfl⟩)
      all_goals go_ret
      all_goals exact ⟨ret_b (by rw [hf3.out]; simp), (Kp.refl _ _).alloc _⟩
    | true =>
      cases S with
      | false =>
        go_enter Tryz.func216, Tryz.ntmps216
        go_wp2_with (go_at_call 217; refine (isWithin_any _ _ _).mono ?_; (first | rw [hR] | rw [hH]); rintro e1 w1 ⟨rfl, rfl⟩)
        all_goals go_ret
        all_goals exact ⟨ret_b (by rw [hf3.out]; simp), (Kp.refl _ _).alloc _⟩
      | true =>
        have hcase : (h == 0) = false ∨ (h = 0 ∧ i = 0 ∧ j = 0 ∧ k = 0) := by
          by_cases e : h = 0
          · exact Or.inr (by omega)
          · exact Or.inl (by simp [e])
        clear hM
        rcases hcase with hz | ⟨rfl, rfl, rfl, rfl⟩
        all_goals
          go_enter Tryz.func216, Tryz.ntmps216
          go_wp2_with (first | (go_at_call 217; refine (isWithin_any _ _ _).mono ?_; (first | rw [hR] | rw [hH]); rintro e1 w1 ⟨rfl, rfl⟩) | fail)
          refine (isTermP_any a b c _).mono ?_
          rw [H1.out]
          rintro e1 w1 ⟨rfl, k1⟩
          obtain ⟨kk, hl, ⟨kc, kz⟩⟩ := k1.box (fun h => h)
          have K1 : Hid (Nw w w1) := kk
          have S1 : Hid (Sm _ w1 w.heap.size) := ⟨kc, kz⟩
          clear k1 kk
          cases T1 with
          | false =>
            go_wp2
            go_ret
            exact ⟨ret_b (by rw [hf3.out]; simp), K1.out⟩
          | true =>
            go_wp2_with fail
            refine (isTermP_any e f g _).mono ?_
            rw [H2.out]
            rintro e2 w2 ⟨rfl, k2⟩
            clear kc kz
            have K2 : Hid (Nw w w2) := K1.out.trans k2
            obtain ⟨hl2, ⟨kc, kz⟩⟩ := k2.keeps S1.out hl (fun h => h)
            clear k2 S1
            cases T2 with
            | false =>
              go_wp2
              go_ret
              exact ⟨ret_b (by rw [hf3.out]; simp), K2.out⟩
            | true =>
              go_wp2_with fail
              refine (isTermP_any _ _ _ _).mono ?_
              rw [H3.out]
              rintro e3 w3 ⟨rfl, k3⟩
              have K3 : Hid (Nw w w3) := K2.out.trans k3
              clear k3
              go_wp2
              go_ret
              exact ⟨ret_b (by rw [hf3.out]; cases T3 <;> rfl), K3.out⟩
end Go.Proofs.YtcboiapggnmpfaaGreat
