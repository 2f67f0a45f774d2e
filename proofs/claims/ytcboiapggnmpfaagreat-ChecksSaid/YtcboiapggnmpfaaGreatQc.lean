/- Walks: the document's table of states (spotterref: form). -/
import Derived.Test.YtcboiapggnmpfaaGreatRows
import Derived.Test.YtcboiapggnmpfaaGreatQa
import Derived.WalkKit
import Derived.WalkSpells
import Derived.WalkLawsBesides
import Derived.Deep.Light
namespace Go.Proofs.YtcboiapggnmpfaaGreat
open Go.RowKit

theorem isDigit_any (c : Int) (w : World) :
    Calls Tryz.prog 198 #[.int .i64 c] w fun e w' => e = .returned (.bool (isDigitB c)) ∧ w' = w := by
  go_enter Tryz.func198, Tryz.ntmps198
  go_wp2
  all_goals
    go_ret
    exact ⟨by simp [isDigitB]; try omega, rfl⟩
theorem isName_any (c : Int) (w : World) :
    Calls Tryz.prog 193 #[.int .i64 c] w fun e w' => e = .returned (.bool (isNameB c)) ∧ w' = w := by
  go_enter Tryz.func193, Tryz.ntmps193
  go_wp2
  all_goals
    go_ret
    exact ⟨by simp [isNameB]; try omega, rfl⟩
theorem isKind_any (c : Int) (w : World) :
    Calls Tryz.prog 228 #[.int .i64 c] w fun e w' => e = .returned (.bool (isKindB c)) ∧ w' = w := by
  by_cases h1 : c = 46
  · subst h1
    go_enter Tryz.func228, Tryz.ntmps228
    go_wp2
    go_ret
    exact ⟨by simp [isKindB], rfl⟩
  · have h1' : (c == 46) = false := by simp [h1]
    go_enter Tryz.func228, Tryz.ntmps228
    go_wp2
    all_goals
      go_ret
      exact ⟨by simp [isKindB, h1']; try omega, rfl⟩
theorem isField_any (c : Int) (w : World) :
    Calls Tryz.prog 230 #[.int .i64 c] w fun e w' => e = .returned (.bool (isFieldB c)) ∧ w' = w := by
  by_cases h1 : c = 116
  · subst h1
    go_enter Tryz.func230, Tryz.ntmps230
    go_wp2
    go_ret
    exact ⟨by simp [isFieldB], rfl⟩
  · have h1' : (c == 116) = false := by simp [h1]
    go_enter Tryz.func230, Tryz.ntmps230
    go_wp2
    all_goals
      go_ret
      exact ⟨by simp [isFieldB, h1']; try omega, rfl⟩
theorem isRel_any (c : Int) (w : World) :
    Calls Tryz.prog 229 #[.int .i64 c] w fun e w' => e = .returned (.bool (isRelB c)) ∧ w' = w := by
  by_cases h1 : c = 60
  · subst h1
    go_enter Tryz.func229, Tryz.ntmps229
    go_wp2
    go_ret
    exact ⟨by simp [isRelB], rfl⟩
  by_cases h2 : c = 62
  · subst h2
    go_enter Tryz.func229, Tryz.ntmps229
    go_wp2
    go_ret
    exact ⟨by simp [isRelB], rfl⟩
  by_cases h3 : c = 61
  · subst h3
    go_enter Tryz.func229, Tryz.ntmps229
    go_wp2
    go_ret
    exact ⟨by simp [isRelB], rfl⟩
  have h1' : (c == 60) = false := by simp [h1]
  have h2' : (c == 62) = false := by simp [h2]
  have h3' : (c == 61) = false := by simp [h3]
  go_enter Tryz.func229, Tryz.ntmps229
  go_wp2
  go_ret
  exact ⟨by simp [isRelB, h1', h2', h3'], rfl⟩

/-- What a method of a form answers. -/
def FmPost (o : Option Fm) (w : World) (e : Ending) (w' : World) : Prop :=
  ∃ st op dg tm lw b, e = .returned (.tuple #[.agg #[.int .i64 st, .int .i64 op, .int .i64 dg, .int .i64 tm, .int .i64 lw], .bool b]) ∧ o = (if b = true then some ⟨st, op, dg, tm, lw⟩ else none) ∧ Below w.heap.size w w'
theorem oldCells {W w1 : World} (hb : Below W.heap.size W w1) : (∀ b o, b < W.heap.size → w1.cell? ⟨b, o, none⟩ = W.cell? ⟨b, o, none⟩) ∧ (∀ b o, b < W.heap.size → w1.frozen? ⟨b, o, none⟩ = W.frozen? ⟨b, o, none⟩) :=
  ⟨fun b o h => hb.cell (p := ⟨b, o, none⟩) h, fun b o h => hb.frozen (p := ⟨b, o, none⟩) h⟩

theorem below2 {w w1 : World} {o1 o2 : Obj} (hb : Below ((w.alloc o1).alloc o2).heap.size ((w.alloc o1).alloc o2) w1) : Below w.heap.size w w1 :=
  (((Below.refl _ _).alloc (Nat.le_refl _) _).alloc (by simp) _).trans (hb.mono (by simp; omega))
theorem below_res5 {w w1 : World} (h : Below w.heap.size w w1) (b : Nat) (hb : w.heap.size ≤ b) (v0 v1 v2 v3 v4 : Value) :
    Below w.heap.size w (((((w1.setCell ⟨b, 0, none⟩ v0).setCell ⟨b, 1, none⟩ v1).setCell ⟨b, 2, none⟩ v2).setCell ⟨b, 3, none⟩ v3).setCell ⟨b, 4, none⟩ v4) :=
  ((((h.setCell hb _).setCell hb _).setCell hb _).setCell hb _).setCell hb _

set_option maxHeartbeats 400000 in
theorem fresh_any (st op dg tm lw : Int) (c : Int) (w : World) (h1 : 0 ≤ op) (h2 : op ≤ 8) :
    Calls Tryz.prog 192 #[.agg #[.int .i64 st, .int .i64 op, .int .i64 dg, .int .i64 tm, .int .i64 lw], .int .i64 c] w (FmPost (freshF ⟨st, op, dg, tm, lw⟩ c) w) := by
  go_enter Tryz.func192, Tryz.ntmps192
  go_wp2_with (go_at_call 228; refine (isKind_any _ _).mono ?_; rintro e w' ⟨rfl, rfl⟩)
  all_goals
    refine bodyPost_ret (by simp [results, Tryz.results192, go_sem]; rfl) rfl ?_
    go_light
    refine ⟨_, _, _, _, _, _, rfl, ?_, ((Below.refl _ _).alloc (Nat.le_refl _) _).alloc (by simp) _⟩
    unfold freshF
    first | (simp_all; done) | (simp_all; omega)


set_option maxHeartbeats 400000 in
theorem behind_any (st op dg tm lw : Int) (c : Int) (w : World) (h1 : 0 ≤ op) (h2 : op ≤ 8) :
    Calls Tryz.prog 195 #[.agg #[.int .i64 st, .int .i64 op, .int .i64 dg, .int .i64 tm, .int .i64 lw], .int .i64 c] w (FmPost (behindF ⟨st, op, dg, tm, lw⟩ c) w) := by
  go_enter Tryz.func195, Tryz.ntmps195
  go_wp2_with ((go_at_call 192; refine (fresh_any _ _ _ _ _ _ _ (by omega) (by omega)).mono ?_; rintro e w1 ⟨st', op', dg', tm', lw', b, rfl, hf, hb⟩; obtain ⟨hc, hz⟩ := oldCells hb; have hsz := hb.size))
  all_goals first
    | (refine bodyPost_ret (by simp [results, Tryz.results195, go_sem]; rfl) rfl ?_
       go_light
       refine ⟨_, _, _, _, _, _, rfl, ?_, ((Below.refl _ _).alloc (Nat.le_refl _) _).alloc (by simp) _⟩
       unfold behindF
       first | (simp_all; done) | (simp_all; omega))
    | (refine bodyPost_ret (by simp [results, Tryz.results195, go_sem, hc]; rfl) rfl ?_
       go_light
       refine ⟨_, _, _, _, _, _, rfl, ?_, below_res5 (below2 hb) _ (by omega) _ _ _ _ _⟩
       clear hc hz hb hsz
       unfold behindF
       first | (simp_all; done) | (simp_all; omega))

set_option maxHeartbeats 400000 in
theorem whole_any (st op dg tm lw : Int) (c : Int) (w : World) (h1 : 0 ≤ op) (h2 : op ≤ 8) :
    Calls Tryz.prog 194 #[.agg #[.int .i64 st, .int .i64 op, .int .i64 dg, .int .i64 tm, .int .i64 lw], .int .i64 c] w (FmPost (wholeF ⟨st, op, dg, tm, lw⟩ c) w) := by
  go_enter Tryz.func194, Tryz.ntmps194
  go_wp2_with ((go_at_call 195; refine (behind_any _ _ _ _ _ _ _ (by omega) (by omega)).mono ?_; rintro e w1 ⟨st', op', dg', tm', lw', b, rfl, hf, hb⟩; obtain ⟨hc, hz⟩ := oldCells hb; have hsz := hb.size))
  all_goals first
    | (refine bodyPost_ret (by simp [results, Tryz.results194, go_sem]; rfl) rfl ?_
       go_light
       refine ⟨_, _, _, _, _, _, rfl, ?_, ((Below.refl _ _).alloc (Nat.le_refl _) _).alloc (by simp) _⟩
       unfold wholeF
       first | (simp_all; done) | (simp_all; omega))
    | (refine bodyPost_ret (by simp [results, Tryz.results194, go_sem, hc]; rfl) rfl ?_
       go_light
       refine ⟨_, _, _, _, _, _, rfl, ?_, below_res5 (below2 hb) _ (by omega) _ _ _ _ _⟩
       clear hc hz hb hsz
       unfold wholeF
       first | (simp_all; done) | (simp_all; omega))
end Go.Proofs.YtcboiapggnmpfaaGreat

namespace Go.Proofs.YtcboiapggnmpfaaGreat
open Go.RowKit
set_option linter.unusedSimpArgs false
set_option linter.unusedVariables false

/-- The bytes of a string, as whole numbers. -/
def bI (s : ByteArray) : List Int := s.data.toList.map fun b => (b.toNat : Int)
theorem bI_length (s : ByteArray) : (bI s).length = s.size := by simp [bI]
theorem bI_drop (s : ByteArray) (k : Nat) (h : k < s.size) : (bI s).drop k = (s[k].toNat : Int) :: (bI s).drop (k + 1) := by
  unfold bI
  rw [List.drop_eq_getElem_cons (by simpa using h)]
  simp
  rfl
theorem bI_drop_end (s : ByteArray) : (bI s).drop s.size = [] := by
  rw [List.drop_eq_nil_iff, bI_length]; exact Nat.le_refl _

set_option maxHeartbeats 1000000 in
theorem over_any (st op dg tm lw : Int) (w : World) :
    Calls Tryz.prog 149 #[.agg #[.int .i64 st, .int .i64 op, .int .i64 dg, .int .i64 tm, .int .i64 lw]] w fun e w' => e = .returned (.bool (overF ⟨st, op, dg, tm, lw⟩)) ∧ Below w.heap.size w w' := by
  go_enter Tryz.func149, Tryz.ntmps149
  go_wp2
  all_goals
    go_ret
    go_light
    refine ⟨?_, (Below.refl _ _).alloc (Nat.le_refl _) _⟩
    simp_all [overF]

/-- Is it a schema? -/
def schemaB (l : List Int) : Bool := l.all (fun c => c == 48 || c == 49 || c == 50 || c == 51) && decide (0 < l.length) && decide (l.length ≤ 4)
set_option maxHeartbeats 1000000 in
theorem Schema_any (s : ByteArray) (w : World) (hs : s.size ≤ maxLen) :
    Calls Tryz.prog 96 #[.string s] w fun e w' => e = .returned (.bool (schemaB (bI s))) ∧ w' = w := by
  unfold maxLen at hs
  go_enter Tryz.func96, Tryz.ntmps96
  go_wp2
  go_loop [3] (fun i => ∃ k : Nat, k ≤ s.size ∧ i = .int .i64 k ∧ (bI s).all (fun c => c == 48 || c == 49 || c == 50 || c == 51) = ((bI s).drop k).all (fun c => c == 48 || c == 49 || c == 50 || c == 51)) (fun i => s.size - (intOf i).toNat)
  case atStart => exact ⟨0, Nat.zero_le _, rfl, by simp⟩
  case round =>
    obtain ⟨k, hk, rfl, hall⟩ := hrel
    have HA : Hid _ := hall
    clear hall
    by_cases hlt : k < s.size
    · have HD := bI_drop s k hlt
      have HB : Hid (((bI s).drop k).all (fun c => c == 48 || c == 49 || c == 50 || c == 51) = (((s[k].toNat : Int) == 48 || (s[k].toNat : Int) == 49 || (s[k].toNat : Int) == 50 || (s[k].toNat : Int) == 51) && ((bI s).drop (k + 1)).all (fun c => c == 48 || c == 49 || c == 50 || c == 51))) := by rw [HD]; rfl
      clear HD
      go_wp2
      all_goals first
        | (go_round
           case rel => exact ⟨k + 1, by omega, by go_num, by rw [HA.out, HB.out]; simp_all⟩
           case measure => simp [intOf]; omega)
        | (go_ret
           refine ⟨?_, rfl⟩
           unfold schemaB
           rw [HA.out, HB.out]
           simp_all)
    · have HE : (bI s).drop k = [] := by rw [show k = s.size by omega]; exact bI_drop_end s
      have HB : Hid ((bI s).all (fun c => c == 48 || c == 49 || c == 50 || c == 51) = true) := by rw [HA.out, HE]; rfl
      clear HE HA
      go_wp2
      all_goals
        go_ret
        refine ⟨?_, rfl⟩
        unfold schemaB
        rw [HB.out, bI_length]
        first | (simp; done) | (simp; omega) | (simp_all; done) | (simp_all; omega) | trace_state
end Go.Proofs.YtcboiapggnmpfaaGreat
