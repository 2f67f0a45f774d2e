/- Walks: the document's table of states (spotterref: form): next. -/
import Derived.Test.YtcboiapggnmpfaaGreatQd
import Derived.Deep.RegionWith
import Derived.Deep.RegionHeld3
namespace Go.Proofs.YtcboiapggnmpfaaGreat
open Go.RowKit
set_option linter.unusedSimpArgs false
set_option linter.unusedVariables false
theorem isDigit_is {c : Int} {b : Bool} (h : isDigitB c = b) (w : World) :
    Calls Tryz.prog 198 #[.int .i64 c] w fun e w' => e = .returned (.bool b) ∧ w' = w := by
  subst h
  exact isDigit_any c w

set_option maxHeartbeats 2000000 in
theorem next12_true (op dg tm lw : Int) (c : Int) (w : World) (h1 : 0 ≤ op) (h2 : op ≤ 8) (h3 : 0 ≤ dg) (h4 : dg ≤ 18) (h5 : 0 ≤ c) (h6 : c ≤ 255) (hd : isDigitB c = true) :
    Calls Tryz.prog 148 #[.agg #[.int .i64 12, .int .i64 op, .int .i64 dg, .int .i64 tm, .int .i64 lw], .int .i64 c] w (FmPost (nextF ⟨12, op, dg, tm, lw⟩ c) w) := by
  go_enter Tryz.func148, Tryz.ntmps148
  go_wp2
  go_region_held3 (fun w' => w'.cell? ⟨w.heap.size, 0, none⟩ = some (.int .i64 13) ∧ w'.cell? ⟨w.heap.size, 1, none⟩ = some (.int .i64 op) ∧ w'.cell? ⟨w.heap.size, 2, none⟩ = some (.int .i64 (dg + 1)) ∧ w'.cell? ⟨w.heap.size, 3, none⟩ = some (.int .i64 tm) ∧ w'.cell? ⟨w.heap.size, 4, none⟩ = some (.int .i64 lw)) (go_keep)
    (first | (go_at_call 198; refine (isDigit_is hd _).mono ?_; rintro e w1 ⟨rfl, rfl⟩))
  all_goals go_wp2
  all_goals
    refine bodyPost_ret (by simp [results, Tryz.results148, go_sem]; rfl) rfl ?_
    go_light
    refine ⟨_, _, _, _, _, _, rfl, ?_, ?_⟩
    · unfold nextF
      simp [hd]
    · exact (((Below.refl _ _).alloc (Nat.le_refl _) _).alloc (by simp) _).drew

set_option maxHeartbeats 2000000 in
theorem next12_false (op dg tm lw : Int) (c : Int) (w : World) (h1 : 0 ≤ op) (h2 : op ≤ 8) (h3 : 0 ≤ dg) (h4 : dg ≤ 18) (h5 : 0 ≤ c) (h6 : c ≤ 255) (hd : isDigitB c = false) :
    Calls Tryz.prog 148 #[.agg #[.int .i64 12, .int .i64 op, .int .i64 dg, .int .i64 tm, .int .i64 lw], .int .i64 c] w (FmPost (nextF ⟨12, op, dg, tm, lw⟩ c) w) := by
  go_enter Tryz.func148, Tryz.ntmps148
  go_wp2
  first | go_region_with ((go_at_call 198; refine (isDigit_is hd _).mono ?_; rintro e w1 ⟨rfl, rfl⟩)) | fail
  all_goals go_wp2
  all_goals
    refine bodyPost_ret (by simp [results, Tryz.results148, go_sem]; rfl) rfl ?_
    go_light
    refine ⟨_, _, _, _, _, _, rfl, ?_, ?_⟩
    · unfold nextF
      simp [hd]
    · exact (((Below.refl _ _).alloc (Nat.le_refl _) _).alloc (by simp) _).drew

set_option maxHeartbeats 2000000 in
theorem next13_true (op dg tm lw : Int) (c : Int) (w : World) (h1 : 0 ≤ op) (h2 : op ≤ 8) (h3 : 0 ≤ dg) (h4 : dg ≤ 18) (h5 : 0 ≤ c) (h6 : c ≤ 255) (hd : isDigitB c = true) :
    Calls Tryz.prog 148 #[.agg #[.int .i64 13, .int .i64 op, .int .i64 dg, .int .i64 tm, .int .i64 lw], .int .i64 c] w (FmPost (nextF ⟨13, op, dg, tm, lw⟩ c) w) := by
  go_enter Tryz.func148, Tryz.ntmps148
  go_wp2
  go_region_held3 (fun w' => w'.cell? ⟨w.heap.size, 0, none⟩ = some (.int .i64 13) ∧ w'.cell? ⟨w.heap.size, 1, none⟩ = some (.int .i64 op) ∧ w'.cell? ⟨w.heap.size, 2, none⟩ = some (.int .i64 (dg + 1)) ∧ w'.cell? ⟨w.heap.size, 3, none⟩ = some (.int .i64 tm) ∧ w'.cell? ⟨w.heap.size, 4, none⟩ = some (.int .i64 lw)) (go_keep)
    (first | (go_at_call 198; refine (isDigit_is hd _).mono ?_; rintro e w1 ⟨rfl, rfl⟩))
  all_goals go_wp2
  all_goals
    refine bodyPost_ret (by simp [results, Tryz.results148, go_sem]; rfl) rfl ?_
    go_light
    refine ⟨_, _, _, _, _, _, rfl, ?_, ?_⟩
    · unfold nextF
      simp [hd]
    · exact (((Below.refl _ _).alloc (Nat.le_refl _) _).alloc (by simp) _).drew

set_option maxHeartbeats 2000000 in
theorem next13_false (op dg tm lw : Int) (c : Int) (w : World) (h1 : 0 ≤ op) (h2 : op ≤ 8) (h3 : 0 ≤ dg) (h4 : dg ≤ 18) (h5 : 0 ≤ c) (h6 : c ≤ 255) (hd : isDigitB c = false) :
    Calls Tryz.prog 148 #[.agg #[.int .i64 13, .int .i64 op, .int .i64 dg, .int .i64 tm, .int .i64 lw], .int .i64 c] w (FmPost (nextF ⟨13, op, dg, tm, lw⟩ c) w) := by
  go_enter Tryz.func148, Tryz.ntmps148
  go_wp2
  first | go_region_with ((go_at_call 198; refine (isDigit_is hd _).mono ?_; rintro e w1 ⟨rfl, rfl⟩)) | fail
  all_goals go_wp2
  all_goals
    refine bodyPost_ret (by simp [results, Tryz.results148, go_sem]; rfl) rfl ?_
    go_light
    refine ⟨_, _, _, _, _, _, rfl, ?_, ?_⟩
    · unfold nextF
      simp [hd]
    · exact (((Below.refl _ _).alloc (Nat.le_refl _) _).alloc (by simp) _).drew

set_option maxHeartbeats 2000000 in
theorem nextr_any (st op dg tm lw : Int) (c : Int) (w : World) (h1 : 0 ≤ op) (h2 : op ≤ 8) (h3 : 0 ≤ dg) (h4 : dg ≤ 18) (h5 : 0 ≤ c) (h6 : c ≤ 255) (hs1 : (st == 12) = false) (hs2 : (st == 13) = false) :
    Calls Tryz.prog 148 #[.agg #[.int .i64 st, .int .i64 op, .int .i64 dg, .int .i64 tm, .int .i64 lw], .int .i64 c] w (FmPost (nextF ⟨st, op, dg, tm, lw⟩ c) w) := by
  go_enter Tryz.func148, Tryz.ntmps148
  go_wp2_with (first | (go_at_call 193; refine (isName_any _ _).mono ?_; rintro e w1 ⟨rfl, rfl⟩) | (go_at_call 192; refine (fresh_any _ _ _ _ _ _ _ (by omega) (by omega)).mono ?_; rintro e w1 ⟨st', op', dg', tm', lw', b, rfl, hf, hb⟩; obtain ⟨hc, hz⟩ := oldCells hb; have hsz := hb.size) | (go_at_call 194; refine (whole_any _ _ _ _ _ _ _ (by omega) (by omega)).mono ?_; rintro e w1 ⟨st', op', dg', tm', lw', b, rfl, hf, hb⟩; obtain ⟨hc, hz⟩ := oldCells hb; have hsz := hb.size) | (go_at_call 195; refine (behind_any _ _ _ _ _ _ _ (by omega) (by omega)).mono ?_; rintro e w1 ⟨st', op', dg', tm', lw', b, rfl, hf, hb⟩; obtain ⟨hc, hz⟩ := oldCells hb; have hsz := hb.size) | (go_at_call 196; refine (braced_any _ _ _ _ _ _ _ (by omega) (by omega)).mono ?_; rintro e w1 ⟨st', op', dg', tm', lw', b, rfl, hf, hb⟩; obtain ⟨hc, hz⟩ := oldCells hb; have hsz := hb.size) | (go_at_call 197; refine (tested_any _ _ _ _ _ _ _ ).mono ?_; rintro e w1 ⟨st', op', dg', tm', lw', b, rfl, hf, hb⟩; obtain ⟨hc, hz⟩ := oldCells hb; have hsz := hb.size) | (go_at_call 199; refine (termed_any _ _ _ _ _ _ _ (by omega) (by omega)).mono ?_; rintro e w1 ⟨st', op', dg', tm', lw', b, rfl, hf, hb⟩; obtain ⟨hc, hz⟩ := oldCells hb; have hsz := hb.size))
  all_goals first
    | (refine bodyPost_ret (by simp [results, Tryz.results148, go_sem]; rfl) rfl ?_
       go_light
       refine ⟨_, _, _, _, _, _, rfl, ?_, ((Below.refl _ _).alloc (Nat.le_refl _) _).alloc (by simp) _⟩
       try clear w
       unfold nextF
       simp only [beq_iff_eq, beq_eq_false_iff_ne, ne_eq] at *
       repeat' split
       all_goals first | rfl | (simp_all; done) | (exfalso; simp_all; omega))
    | (refine bodyPost_ret (by simp [results, Tryz.results148, go_sem, hc]; rfl) rfl ?_
       go_light
       refine ⟨_, _, _, _, _, _, rfl, ?_, below_res5 (below2 hb) _ (by omega) _ _ _ _ _⟩
       clear hc hz hb hsz
       unfold nextF
       simp only [beq_iff_eq, beq_eq_false_iff_ne, ne_eq] at *
       repeat' split
       all_goals first | rfl | (simp_all; done) | (exfalso; simp_all; omega))

theorem next_any (st op dg tm lw : Int) (c : Int) (w : World) (h1 : 0 ≤ op) (h2 : op ≤ 8) (h3 : 0 ≤ dg) (h4 : dg ≤ 18) (h5 : 0 ≤ c) (h6 : c ≤ 255) :
    Calls Tryz.prog 148 #[.agg #[.int .i64 st, .int .i64 op, .int .i64 dg, .int .i64 tm, .int .i64 lw], .int .i64 c] w (FmPost (nextF ⟨st, op, dg, tm, lw⟩ c) w) := by
  by_cases hs12 : st = 12
  · subst hs12
    rcases Bool.eq_false_or_eq_true (isDigitB c) with hd | hd
    · exact next12_true op dg tm lw c w h1 h2 h3 h4 h5 h6 hd
    · exact next12_false op dg tm lw c w h1 h2 h3 h4 h5 h6 hd
  by_cases hs13 : st = 13
  · subst hs13
    rcases Bool.eq_false_or_eq_true (isDigitB c) with hd | hd
    · exact next13_true op dg tm lw c w h1 h2 h3 h4 h5 h6 hd
    · exact next13_false op dg tm lw c w h1 h2 h3 h4 h5 h6 hd
  · exact nextr_any st op dg tm lw c w h1 h2 h3 h4 h5 h6 (by simp [hs12]) (by simp [hs13])
end Go.Proofs.YtcboiapggnmpfaaGreat
