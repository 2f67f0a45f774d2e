/- Walks: the document's table of states (spotterref: form), more. -/
import Derived.Test.YtcboiapggnmpfaaGreatQc
namespace Go.Proofs.YtcboiapggnmpfaaGreat
open Go.RowKit

set_option maxHeartbeats 1000000 in
theorem tested_any (st op dg tm lw : Int) (c : Int) (w : World) :
    Calls Tryz.prog 197 #[.agg #[.int .i64 st, .int .i64 op, .int .i64 dg, .int .i64 tm, .int .i64 lw], .int .i64 c] w (FmPost (testedF ⟨st, op, dg, tm, lw⟩ c) w) := by
  go_enter Tryz.func197, Tryz.ntmps197
  go_wp2_with ((go_at_call 229; refine (isRel_any _ _).mono ?_; rintro e w1 ⟨rfl, rfl⟩))
  all_goals first
    | (refine bodyPost_ret (by simp [results, Tryz.results197, go_sem]; rfl) rfl ?_
       go_light
       refine ⟨_, _, _, _, _, _, rfl, ?_, ((Below.refl _ _).alloc (Nat.le_refl _) _).alloc (by simp) _⟩
       try clear w
       unfold testedF
       simp only [beq_iff_eq, beq_eq_false_iff_ne, ne_eq] at *
       repeat' split
       all_goals first | rfl | (simp_all; done) | (exfalso; simp_all; omega))

set_option maxHeartbeats 1000000 in
theorem braced_any (st op dg tm lw : Int) (c : Int) (w : World) (h1 : 0 ≤ c) (h2 : c ≤ 255) :
    Calls Tryz.prog 196 #[.agg #[.int .i64 st, .int .i64 op, .int .i64 dg, .int .i64 tm, .int .i64 lw], .int .i64 c] w (FmPost (bracedF ⟨st, op, dg, tm, lw⟩ c) w) := by
  go_enter Tryz.func196, Tryz.ntmps196
  go_wp2_with ((go_at_call 198; refine (isDigit_any _ _).mono ?_; rintro e w1 ⟨rfl, rfl⟩))
  all_goals first
    | (refine bodyPost_ret (by simp [results, Tryz.results196, go_sem]; rfl) rfl ?_
       go_light
       refine ⟨_, _, _, _, _, _, rfl, ?_, ((Below.refl _ _).alloc (Nat.le_refl _) _).alloc (by simp) _⟩
       try clear w
       unfold bracedF
       simp only [beq_iff_eq, beq_eq_false_iff_ne, ne_eq] at *
       repeat' split
       all_goals first | rfl | (simp_all; done) | (exfalso; simp_all; omega))
end Go.Proofs.YtcboiapggnmpfaaGreat

namespace Go.Proofs.YtcboiapggnmpfaaGreat
open Go.RowKit
set_option linter.unusedSimpArgs false
set_option linter.unusedVariables false

set_option maxHeartbeats 1000000 in
theorem termed_any (st op dg tm lw : Int) (c : Int) (w : World) (h1 : 0 ≤ dg) (h2 : dg ≤ 18) :
    Calls Tryz.prog 199 #[.agg #[.int .i64 st, .int .i64 op, .int .i64 dg, .int .i64 tm, .int .i64 lw], .int .i64 c] w (FmPost (termedF ⟨st, op, dg, tm, lw⟩ c) w) := by
  by_cases hs : st = 10
  · subst hs
    by_cases hd : isDigitB c = true
    · go_enter Tryz.func199, Tryz.ntmps199
      go_wp2_with (first | (go_at_call 198; refine (isDigit_any _ _).mono ?_; rintro e w1 ⟨rfl, rfl⟩) | (go_at_call 230; refine (isField_any _ _).mono ?_; rintro e w1 ⟨rfl, rfl⟩))
      go_region
      all_goals go_wp2
      all_goals
        refine bodyPost_ret (by simp [results, Tryz.results199, go_sem]; rfl) rfl ?_
        go_light
        refine ⟨_, _, _, _, _, _, rfl, ?_, ?_⟩
        · unfold termedF
          simp [hd]
        · exact (((Below.refl _ _).alloc (Nat.le_refl _) _).alloc (by simp) _).drew
    · have hd' : isDigitB c = false := by simpa using hd
      clear hd
      go_enter Tryz.func199, Tryz.ntmps199
      go_wp2_with (first | (go_at_call 198; refine (isDigit_any _ _).mono ?_; rintro e w1 ⟨rfl, rfl⟩) | (go_at_call 193; refine (isName_any _ _).mono ?_; rintro e w1 ⟨rfl, rfl⟩) | (go_at_call 230; refine (isField_any _ _).mono ?_; rintro e w1 ⟨rfl, rfl⟩) | (go_at_call 197; refine (tested_any _ _ _ _ _ _ _ ).mono ?_; rintro e w1 ⟨st', op', dg', tm', lw', b, rfl, hf, hb⟩; obtain ⟨hc, hz⟩ := oldCells hb; have hsz := hb.size))
      all_goals first
        | (refine bodyPost_ret (by simp [results, Tryz.results199, go_sem]; rfl) rfl ?_
           go_light
           refine ⟨_, _, _, _, _, _, rfl, ?_, ((Below.refl _ _).alloc (Nat.le_refl _) _).alloc (by simp) _⟩
           try clear w
           unfold termedF
           simp only [beq_iff_eq, beq_eq_false_iff_ne, ne_eq] at *
           repeat' split
           all_goals first | rfl | (simp_all; done) | (exfalso; simp_all; omega))
        | (refine bodyPost_ret (by simp [results, Tryz.results199, go_sem, hc]; rfl) rfl ?_
           go_light
           refine ⟨_, _, _, _, _, _, rfl, ?_, below_res5 (below2 hb) _ (by omega) _ _ _ _ _⟩
           clear hc hz hb hsz
           unfold termedF
           simp only [beq_iff_eq, beq_eq_false_iff_ne, ne_eq] at *
           repeat' split
           all_goals first | rfl | (simp_all; done) | (exfalso; simp_all; omega))

  · have hs' : (st == 10) = false := by simp [hs]
    go_enter Tryz.func199, Tryz.ntmps199
    go_wp2_with (first | (go_at_call 198; refine (isDigit_any _ _).mono ?_; rintro e w1 ⟨rfl, rfl⟩) | (go_at_call 193; refine (isName_any _ _).mono ?_; rintro e w1 ⟨rfl, rfl⟩) | (go_at_call 230; refine (isField_any _ _).mono ?_; rintro e w1 ⟨rfl, rfl⟩) | (go_at_call 197; refine (tested_any _ _ _ _ _ _ _ ).mono ?_; rintro e w1 ⟨st', op', dg', tm', lw', b, rfl, hf, hb⟩; obtain ⟨hc, hz⟩ := oldCells hb; have hsz := hb.size))
    all_goals first
      | (refine bodyPost_ret (by simp [results, Tryz.results199, go_sem]; rfl) rfl ?_
         go_light
         refine ⟨_, _, _, _, _, _, rfl, ?_, ((Below.refl _ _).alloc (Nat.le_refl _) _).alloc (by simp) _⟩
         try clear w
         unfold termedF
         simp only [beq_iff_eq, beq_eq_false_iff_ne, ne_eq] at *
         repeat' split
         all_goals first | rfl | (simp_all; done) | (exfalso; simp_all; omega))
      | (refine bodyPost_ret (by simp [results, Tryz.results199, go_sem, hc]; rfl) rfl ?_
         go_light
         refine ⟨_, _, _, _, _, _, rfl, ?_, below_res5 (below2 hb) _ (by omega) _ _ _ _ _⟩
         clear hc hz hb hsz
         unfold termedF
         simp only [beq_iff_eq, beq_eq_false_iff_ne, ne_eq] at *
         repeat' split
         all_goals first | rfl | (simp_all; done) | (exfalso; simp_all; omega))

end Go.Proofs.YtcboiapggnmpfaaGreat
