/- Walks: spotterref: within a repetition; how long a part is. -/
import Derived.Test.YtcboiapggnmpfaaGreatQe
namespace Go.Proofs.YtcboiapggnmpfaaGreat
open Go.RowKit
set_option linter.unusedSimpArgs false
set_option linter.unusedVariables false

/-- The parts of a part stand ahead of it. -/
def WfP (ps : List Pt) (ns : Nat) : Prop := ∀ (i : Nat) (x : Pt), ps[i]? = some x →
  (x.op = 0 ∧ 0 ≤ x.step ∧ x.step < ns) ∨ (x.op = 3 ∧ 0 ≤ x.left ∧ x.left < i ∧ 0 ≤ x.low ∧ x.low ≤ 9 ∧ (x.high = -1 ∨ (1 ≤ x.high ∧ x.high ≤ 9))) ∨ ((x.op = 1 ∨ x.op = 2) ∧ 0 ≤ x.left ∧ x.left < i ∧ 0 ≤ x.right ∧ x.right < i)
/-- Some bool. (A definition of its own: go_ret would part the existence of a bool.) -/
def BoolPost (w : World) (e : Ending) (w' : World) : Prop := ∃ b, e = .returned (.bool b) ∧ Nw w w'
set_option maxRecDepth 100000 in
set_option maxHeartbeats 1000000 in
theorem withinR_any (Q : TP) (ps : List Pt) (ss : List (St × Value)) (root win : Int) (ns : Nat) (hwf : WfP ps ns) (k : Int) : ∀ (f i : Nat), i < f → i < ps.length → ∀ (deep : Bool) (w : World), TreeR w Q ps ss root win →
    Calls Tryz.prog 200 #[.pointer (some ⟨Q.T, 0, none⟩), .int .i64 i, .int .i64 k, .bool deep] w (BoolPost w) := by
  intro f
  induction f with
  | zero => intro i hi; omega
  | succ f ih =>
    intro i hi hil deep w h
    obtain ⟨x, hx⟩ : ∃ x, ps[i]? = some x := ⟨ps[i], by simp [hil]⟩
    have hw := hwf i x hx
    obtain ⟨d0, d1, d2, d3, d4, d5⟩ := h.part i x hx
    have c0 := h.c0
    have hT := h.ltT
    have hp := h.ltp
    have hnp := h.np
    have H : Hid (TreeR w Q ps ss root win) := h
    have HI : Hid (∀ i : Nat, i < f → i < ps.length → ∀ (deep : Bool) (w : World), TreeR w Q ps ss root win → Calls Tryz.prog 200 #[.pointer (some ⟨Q.T, 0, none⟩), .int .i64 i, .int .i64 k, .bool deep] w (BoolPost w)) := ih
    clear h ih hx hwf
    obtain ⟨T, gp, cp, gt, ct⟩ := Q
    simp only at c0 hT hp d0 d1 d2 d3 d4 d5
    have hn1 : ¬ T = w.heap.size := by omega
    have hn2 : ¬ gp = w.heap.size := by omega
    obtain ⟨op, left, right, low, high, step⟩ := x
    simp only at hw d0 d1 d2 d3 d4 d5
    have HC : Hid (∀ ob, TreeR (w.alloc ob) ⟨T, gp, cp, gt, ct⟩ ps ss root win) := fun ob => H.out.nw ((Kp.refl _ _).alloc _)
    rcases hw with ⟨rfl, _⟩ | ⟨rfl, l0, l1, _⟩ | ⟨hop, l0, l1, r0, r1⟩
    · go_enter Tryz.func200, Tryz.ntmps200
      go_wp2
      all_goals
        go_ret
        exact ⟨_, rfl, (Kp.refl _ w).alloc _⟩
    · obtain ⟨nl, rfl⟩ : ∃ nl : Nat, left = nl := ⟨left.toNat, by omega⟩
      go_enter Tryz.func200, Tryz.ntmps200
      go_wp2_with fail
      refine (HI.out nl (by omega) (by omega) true _ (HC.out _)).mono ?_
      rintro e w1 ⟨b, rfl, k1⟩
      go_wp2
      go_ret
      exact ⟨b, rfl, ((Kp.refl _ w).alloc _).trans k1⟩
    · obtain ⟨nl, rfl⟩ : ∃ nl : Nat, left = nl := ⟨left.toNat, by omega⟩
      obtain ⟨nr, rfl⟩ : ∃ nr : Nat, right = nr := ⟨right.toNat, by omega⟩
      rcases hop with rfl | rfl
      all_goals
        go_enter Tryz.func200, Tryz.ntmps200
        go_wp2_with fail
        refine (HI.out nl (by omega) (by omega) deep _ (HC.out _)).mono ?_
        rintro e w1 ⟨b1, rfl, k1⟩
        obtain ⟨kk, hl1, ⟨kc, kz⟩⟩ := k1.box (fun h => h)
        have K1 : Hid (Nw w w1) := kk
        have H1 : Hid (TreeR w1 ⟨T, gp, cp, gt, ct⟩ ps ss root win) := H.out.nw kk
        clear kk k1
        go_wp2_with fail
        refine (HI.out nr (by omega) (by omega) deep _ H1.out).mono ?_
        rintro e w2 ⟨b2, rfl, k2⟩
        have K2 : Hid (Nw w w2) := K1.out.trans k2
        clear k2 kc kz
        go_wp2
        all_goals
          go_ret
          exact ⟨_, rfl, K2.out⟩
end Go.Proofs.YtcboiapggnmpfaaGreat

namespace Go.Proofs.YtcboiapggnmpfaaGreat
open Go.RowKit
set_option linter.unusedSimpArgs false
set_option linter.unusedVariables false

/-- How many steps part i has, written out. -/
def lg (ps : List Pt) : Nat → Nat → Int
  | 0, _ => 0
  | f + 1, i =>
    match ps[i]? with
    | none => 0
    | some x =>
      if x.op = 0 then 1 else
      if x.op = 3 then (if x.high = -1 then lg ps f x.left.toNat else lg ps f x.left.toNat * x.high)
      else lg ps f x.left.toNat + lg ps f x.right.toNat
def IntPost (w : World) (n : Int) (e : Ending) (w' : World) : Prop := e = .returned (.int .i64 n) ∧ Nw w w'
set_option maxRecDepth 100000 in
set_option maxHeartbeats 1000000 in
theorem longR_any (Q : TP) (ps : List Pt) (ss : List (St × Value)) (root win : Int) (ns : Nat) (hwf : WfP ps ns) (hb : ∀ f i, 0 ≤ lg ps f i ∧ lg ps f i ≤ 100000000000000) : ∀ (f i : Nat), i < f → i < ps.length → ∀ (w : World), TreeR w Q ps ss root win →
    Calls Tryz.prog 154 #[.pointer (some ⟨Q.T, 0, none⟩), .int .i64 i] w (IntPost w (lg ps f i)) := by
  intro f
  induction f with
  | zero => intro i hi; omega
  | succ f ih =>
    intro i hi hil w h
    obtain ⟨x, hx⟩ : ∃ x, ps[i]? = some x := ⟨ps[i], by simp [hil]⟩
    have hw := hwf i x hx
    obtain ⟨d0, d1, d2, d3, d4, d5⟩ := h.part i x hx
    have c0 := h.c0
    have hT := h.ltT
    have hp := h.ltp
    have hnp := h.np
    have H : Hid (TreeR w Q ps ss root win) := h
    have HI : Hid (∀ i : Nat, i < f → i < ps.length → ∀ (w : World), TreeR w Q ps ss root win → Calls Tryz.prog 154 #[.pointer (some ⟨Q.T, 0, none⟩), .int .i64 i] w (IntPost w (lg ps f i))) := ih
    have HG : Hid (lg ps (f + 1) i = if x.op = 0 then 1 else if x.op = 3 then (if x.high = -1 then lg ps f x.left.toNat else lg ps f x.left.toNat * x.high) else lg ps f x.left.toNat + lg ps f x.right.toNat) := by
      show _ = _
      simp only [lg, hx]
    generalize lg ps (f + 1) i = R at HG
    have HB : Hid (∀ f i, 0 ≤ lg ps f i ∧ lg ps f i ≤ 100000000000000) := hb
    clear h ih hx hwf hb
    obtain ⟨T, gp, cp, gt, ct⟩ := Q
    simp only at c0 hT hp d0 d1 d2 d3 d4 d5
    have hn1 : ¬ T = w.heap.size := by omega
    have hn2 : ¬ gp = w.heap.size := by omega
    obtain ⟨op, left, right, low, high, step⟩ := x
    simp only at hw d0 d1 d2 d3 d4 d5 HG
    have HC : Hid (∀ ob, TreeR (w.alloc ob) ⟨T, gp, cp, gt, ct⟩ ps ss root win) := fun ob => H.out.nw ((Kp.refl _ _).alloc _)
    rcases hw with ⟨rfl, _⟩ | ⟨rfl, l0, l1, _, _, hh⟩ | ⟨hop, l0, l1, r0, r1⟩
    · have HR : Hid (R = 1) := by have := HG.out; show _ = _; simpa using this
      clear HG
      go_enter Tryz.func154, Tryz.ntmps154
      go_wp2
      go_ret
      exact ⟨by rw [HR.out]; rfl, (Kp.refl _ w).alloc _⟩
    · obtain ⟨nl, rfl⟩ : ∃ nl : Nat, left = nl := ⟨left.toNat, by omega⟩
      obtain ⟨g0, g1⟩ := HB.out f nl
      have hI := HI.out nl (by omega) (by omega)
      have HR : Hid (R = if high = -1 then lg ps f nl else lg ps f nl * high) := by have := HG.out; show _ = _; simpa using this
      generalize lg ps f nl = N at *
      have HI2 : Hid (∀ (w : World), TreeR w ⟨T, gp, cp, gt, ct⟩ ps ss root win → Calls Tryz.prog 154 #[.pointer (some ⟨T, 0, none⟩), .int .i64 nl] w (IntPost w N)) := hI
      clear hI HG HI HB
      rcases hh with rfl | ⟨q0, q1⟩
      · have HR2 : Hid (R = N) := by have := HR.out; show _ = _; simpa using this
        clear HR
        go_enter Tryz.func154, Tryz.ntmps154
        go_wp2_with fail
        refine (HI2.out _ (HC.out _)).mono ?_
        rintro e w1 ⟨rfl, k1⟩
        obtain ⟨kk, hl1, ⟨kc, kz⟩⟩ := k1.box (fun h => h)
        have K1 : Hid (Nw w w1) := kk
        clear kk k1
        go_wp2
        go_ret
        exact ⟨by rw [HR2.out]; rfl, K1.out⟩
      · have hne : (high == -1) = false := by simp; omega
        have HR2 : Hid (R = N * high) := by have := HR.out; rw [if_neg (by omega)] at this; exact this
        have hmul : 0 ≤ N * high ∧ N * high ≤ 900000000000000 := by
          constructor
          · exact Int.mul_nonneg g0 (by omega)
          · calc N * high ≤ 100000000000000 * high := Int.mul_le_mul_of_nonneg_right g1 (by omega)
              _ ≤ 100000000000000 * 9 := by omega
              _ = 900000000000000 := by omega
        obtain ⟨hm0, hm1⟩ := hmul
        clear HR
        go_enter Tryz.func154, Tryz.ntmps154
        go_wp2_with fail
        refine (HI2.out _ (HC.out _)).mono ?_
        rintro e w1 ⟨rfl, k1⟩
        obtain ⟨kk, hl1, ⟨kc, kz⟩⟩ := k1.box (fun h => h)
        have K1 : Hid (Nw w w1) := kk
        clear kk k1
        go_wp2
        go_ret
        exact ⟨by rw [HR2.out]; rfl, K1.out⟩
    · obtain ⟨nl, rfl⟩ : ∃ nl : Nat, left = nl := ⟨left.toNat, by omega⟩
      obtain ⟨nr, rfl⟩ : ∃ nr : Nat, right = nr := ⟨right.toNat, by omega⟩
      obtain ⟨g0, g1⟩ := HB.out f nl
      obtain ⟨g2, g3⟩ := HB.out f nr
      have hI := HI.out nl (by omega) (by omega)
      have hJ := HI.out nr (by omega) (by omega)
      have HR : Hid (R = lg ps f nl + lg ps f nr) := by
        have := HG.out
        rw [if_neg (by omega), if_neg (by omega)] at this
        show _ = _
        simpa using this
      generalize lg ps f nl = N at *
      generalize lg ps f nr = M at *
      have HI2 : Hid (∀ (w : World), TreeR w ⟨T, gp, cp, gt, ct⟩ ps ss root win → Calls Tryz.prog 154 #[.pointer (some ⟨T, 0, none⟩), .int .i64 nl] w (IntPost w N)) := hI
      have HJ2 : Hid (∀ (w : World), TreeR w ⟨T, gp, cp, gt, ct⟩ ps ss root win → Calls Tryz.prog 154 #[.pointer (some ⟨T, 0, none⟩), .int .i64 nr] w (IntPost w M)) := hJ
      clear hI hJ HG HI HB
      rcases hop with rfl | rfl
      all_goals
        go_enter Tryz.func154, Tryz.ntmps154
        go_wp2_with fail
        refine (HI2.out _ (HC.out _)).mono ?_
        rintro e w1 ⟨rfl, k1⟩
        obtain ⟨kk, hl1, ⟨kc, kz⟩⟩ := k1.box (fun h => h)
        have K1 : Hid (Nw w w1) := kk
        have H1 : Hid (TreeR w1 ⟨T, gp, cp, gt, ct⟩ ps ss root win) := H.out.nw kk
        clear kk k1
        go_wp2_with fail
        refine (HJ2.out _ H1.out).mono ?_
        rintro e w2 ⟨rfl, k2⟩
        have K2 : Hid (Nw w w2) := K1.out.trans k2
        clear k2 kc kz
        go_wp2
        go_ret
        exact ⟨by rw [HR.out]; rfl, K2.out⟩
end Go.Proofs.YtcboiapggnmpfaaGreat
