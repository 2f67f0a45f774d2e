/- Walks: spotterref: just the edges of a part that is not written out. -/
import Derived.Test.YtcboiapggnmpfaaGreatQh
namespace Go.Proofs.YtcboiapggnmpfaaGreat
open Go.RowKit
set_option linter.unusedSimpArgs false
set_option linter.unusedVariables false

/-- A round's edges without a step. -/
def rdE (low high : Int) (a b : Nat) : List Ed := (if high = 1 then [] else [⟨b, a, -1⟩]) ++ (if low = 0 then [⟨a, b, -1⟩] else [])
/-- Part i's edges between two points, pt being the next new point; and the next new point behind it. -/
def plP (ps : List Pt) : Nat → Nat → Nat → Nat → Nat → List Ed × Nat
  | 0, _, _, _, pt => ([], pt)
  | f + 1, i, fr, tq, pt =>
    match ps[i]? with
    | none => ([], pt)
    | some x =>
      if x.op = 0 then ([⟨fr, tq, x.step⟩], pt) else
      if x.op = 3 then ([⟨fr, pt, -1⟩, ⟨(pt + 1 : Nat), tq, -1⟩] ++ rdE x.low x.high pt (pt + 1) ++ (plP ps f x.left.toNat pt (pt + 1) (pt + 2)).1, (plP ps f x.left.toNat pt (pt + 1) (pt + 2)).2) else
      if x.op = 1 then ((plP ps f x.left.toNat fr pt (pt + 1)).1 ++ (plP ps f x.right.toNat pt tq (plP ps f x.left.toNat fr pt (pt + 1)).2).1, (plP ps f x.right.toNat pt tq (plP ps f x.left.toNat fr pt (pt + 1)).2).2)
      else ((plP ps f x.left.toNat fr tq pt).1 ++ (plP ps f x.right.toNat fr tq (plP ps f x.left.toNat fr tq pt).2).1, (plP ps f x.right.toNat fr tq (plP ps f x.left.toNat fr tq pt).2).2)
theorem rdE_len (low high : Int) (a b : Nat) : (rdE low high a b).length ≤ 2 := by
  unfold rdE
  split <;> split <;> simp
theorem plP_le (ps : List Pt) : ∀ f i fr tq pt, pt ≤ (plP ps f i fr tq pt).2 ∧ (plP ps f i fr tq pt).2 ≤ pt + pg ps f i ∧ (plP ps f i fr tq pt).1.length ≤ pg ps f i := by
  intro f
  induction f with
  | zero => intro i fr tq pt; simp [plP, pg]
  | succ f ih =>
    intro i fr tq pt
    simp only [plP, pg]
    cases hx : ps[i]? with
    | none => simp
    | some x =>
      simp only
      by_cases h0 : x.op = 0
      · simp [h0]
      · by_cases h3 : x.op = 3
        · rw [if_neg h0, if_pos h3, if_neg h0, if_pos h3]
          have := ih x.left.toNat pt (pt + 1) (pt + 2)
          have := rdE_len x.low x.high pt (pt + 1)
          simp only [List.length_append, List.length_cons, List.length_nil]
          omega
        · rw [if_neg h0, if_neg h3, if_neg h0, if_neg h3]
          by_cases h1 : x.op = 1
          · rw [if_pos h1]
            have h4 := ih x.left.toNat fr pt (pt + 1)
            have h5 := ih x.right.toNat pt tq (plP ps f x.left.toNat fr pt (pt + 1)).2
            simp only [List.length_append]
            omega
          · rw [if_neg h1]
            have h4 := ih x.left.toNat fr tq pt
            have h5 := ih x.right.toNat fr tq (plP ps f x.left.toNat fr tq pt).2
            simp only [List.length_append]
            omega
/-- What is left: n' points, just the edges es'. -/
def GPostX (G B : Nat) (gi go : Int) (N1 N2 n' : Nat) (ev sv : Value) (es' : List Ed) (st : List Int) (w : World) (e : Ending) (w' : World) : Prop :=
  e = .returned (.tuple #[]) ∧ ∃ ev' sv', GT w' G B n' ev' sv' gi go es' st ∧ (∀ y ∈ es', y.st < N1) ∧ (∀ y ∈ st, 0 ≤ y ∧ y < N2) ∧ KE G ev sv w w' ∧ Own w ev ev' ∧ Own w sv sv'
theorem PlSt.atX {w0 wk w' : World} {Q : TP} {ps : List Pt} {ss : List (St × Value)} {root win : Int} {G B n n' : Nat} {ev sv : Value} {gi go : Int} {es es' : List Ed} {st : List Int} {N1 N2 : Nat} {ev0 sv0 : Value} {X : Nat} {x : Pt} {e : Ending}
    (h : PlSt w0 wk Q ps ss root win G B n ev sv gi go es st N1 N2 ev0 sv0 X x) (p : GPostX G B gi go N1 N2 n' ev sv es' st wk e w') : e = .returned (.tuple #[]) ∧ ∃ ev' sv', PlSt w0 w' Q ps ss root win G B n' ev' sv' gi go es' st N1 N2 ev0 sv0 X x := by
  obtain ⟨he, ev', sv', g, a1, a2, k, o1, o2⟩ := p
  exact ⟨he, ev', sv', h.next g a1 a2 k o1 o2⟩
theorem PlSt.postX {w0 wk : World} {Q : TP} {ps : List Pt} {ss : List (St × Value)} {root win : Int} {G B n : Nat} {ev sv : Value} {gi go : Int} {es es' : List Ed} {st : List Int} {N1 N2 : Nat} {ev0 sv0 : Value} {X : Nat} {x : Pt}
    (h : PlSt w0 wk Q ps ss root win G B n ev sv gi go es st N1 N2 ev0 sv0 X x) (e : es' = es) : GPostX G B gi go N1 N2 n ev0 sv0 es' st w0 (.returned (.tuple #[])) wk := by
  subst e
  exact ⟨rfl, ev, sv, h.gt, h.s1, h.s2, h.kg, h.ow, h.ow2⟩
theorem freeX_any (G B n : Nat) (ev sv : Value) (gi go : Int) (es : List Ed) (st : List Int) (N1 N2 : Nat) (fr tq : Nat) (w : World) (h : GT w G B n ev sv gi go es st) (hn : es.length < 100000) (hf : fr < n) (ht : tq < n) (s1 : ∀ y ∈ es, y.st < N1) (s2 : ∀ y ∈ st, 0 ≤ y ∧ y < N2) :
    Calls Tryz.prog 189 #[.pointer (some ⟨G, 0, none⟩), .int .i64 fr, .int .i64 tq] w (GPostX G B gi go N1 N2 n ev sv (es ++ [⟨fr, tq, -1⟩]) st w) := by
  refine (free_any G B n ev sv gi go es fr tq w h.gs hn (by omega) (by omega)).mono ?_
  rintro e w' ⟨rfl, ev', g, k, o⟩
  exact ⟨rfl, ev', sv, h.free g k, st_snoc s1 (by simp; omega), s2, k.ke sv, o, Own.refl _ _⟩
set_option maxRecDepth 100000 in
set_option maxHeartbeats 1000000 in
theorem roundX_any (G B n : Nat) (ev sv : Value) (gi go : Int) (es : List Ed) (st : List Int) (N1 N2 : Nat) (fr tq : Nat) (x : Pt) (w : World) (h : GT w G B n ev sv gi go es st) (hn : es.length + 2 ≤ 100000) (hf : fr < n) (ht : tq < n) (s1 : ∀ y ∈ es, y.st < N1) (s2 : ∀ y ∈ st, 0 ≤ y ∧ y < N2) :
    Calls Tryz.prog 190 #[.pointer (some ⟨G, 0, none⟩), .int .i64 fr, .int .i64 tq, ptV x] w (GPostX G B gi go N1 N2 n ev sv (es ++ rdE x.low x.high fr tq) st w) := by
  obtain ⟨op, left, right, low, high, step⟩ := x
  unfold ptV
  have H1 : Hid (∀ ob, GT (w.alloc ob) G B n ev sv gi go es st) := fun ob => h.nw ((Kp.refl _ w).alloc ob)
  have HF : Hid (∀ W (ev : Value) (es : List Ed), GT W G B n ev sv gi go es st → es.length < 100000 → (∀ y ∈ es, y.st < N1) → Calls Tryz.prog 189 #[.pointer (some ⟨G, 0, none⟩), .int .i64 tq, .int .i64 fr] W (GPostX G B gi go N1 N2 n ev sv (es ++ [⟨tq, fr, -1⟩]) st W)) := fun W ev es g hl s => freeX_any G B n ev sv gi go es st N1 N2 tq fr W g hl ht hf s s2
  have HT : Hid (∀ W (ev sv : Value) (es : List Ed), GT W G B n ev sv gi go es st → es.length < 100000 → (∀ y ∈ es, y.st < N1) → Calls Tryz.prog 189 #[.pointer (some ⟨G, 0, none⟩), .int .i64 fr, .int .i64 tq] W (GPostX G B gi go N1 N2 n ev sv (es ++ [⟨fr, tq, -1⟩]) st W)) := fun W ev sv es g hl s => freeX_any G B n ev sv gi go es st N1 N2 fr tq W g hl hf ht s s2
  have S1 : Hid (∀ y ∈ es, y.st < N1) := s1
  have S2 : Hid (∀ y ∈ st, 0 ≤ y ∧ y < N2) := s2
  have HX : Hid (¬ ev.ownBlock = some w.heap.size ∧ ¬ sv.ownBlock = some w.heap.size ∧ G < w.heap.size) := by
    refine ⟨?_, ?_, ?_⟩
    · intro e; have := own_ge h.gs.own e; omega
    · intro e; have := own_ge h.own2 e; omega
    · have := h.gs.hG; have := h.gs.hB; omega
  have hGX : G < w.heap.size := HX.out.2.2
  clear h hf ht s1 s2
  by_cases hh : high = 1
  · have hh' : (high != 1) = false := by simp [hh]
    by_cases hl : low = 0
    · have hl' : (low == 0) = true := by simp [hl]
      have HR : Hid (rdE low high fr tq = [⟨fr, tq, -1⟩]) := by show _ = _; simp [rdE, hh, hl]
      clear hh hl
      go_enter Tryz.func190, Tryz.ntmps190
      go_wp2_with fail
      refine (HT.out _ ev sv es (H1.out _) (by omega) S1.out).mono ?_
      rintro e w1 ⟨rfl, ev1, sv1, g1, q1, q2, k1, o1, o2⟩
      have KK : Hid (GPostX G B gi go N1 N2 n ev sv (es ++ [⟨fr, tq, -1⟩]) st w (.returned (.tuple #[])) w1) := ⟨rfl, ev1, sv1, g1, q1, q2, ((Kp.refl _ w).alloc _).trans k1, (Own.refl w ev).trans (by simp) o1, (Own.refl w sv).trans (by simp) o2⟩
      clear k1 o1 o2 g1 q1 q2
      go_wp2
      go_end0
      simp only [HR.out]
      exact KK.out
    · have hl' : (low == 0) = false := by simp [hl]
      have HR : Hid (rdE low high fr tq = []) := by show _ = _; simp [rdE, hh, hl]
      clear hh hl
      go_enter Tryz.func190, Tryz.ntmps190
      go_wp2
      go_end0
      simp only [HR.out, List.append_nil]
      exact ⟨rfl, ev, sv, H1.out _, S1.out, S2.out, (Kp.refl _ w).alloc _, Own.refl _ _, Own.refl _ _⟩
  · have hh' : (high != 1) = true := by simp [hh]
    have HRH : Hid (¬ high = 1) := hh
    clear hh
    go_enter Tryz.func190, Tryz.ntmps190
    go_wp2_with fail
    refine (HF.out _ ev es (H1.out _) (by omega) S1.out).mono ?_
    rintro e w1 ⟨rfl, ev1, sv1, g1, q1, q2, k1, o1, o2⟩
    obtain ⟨m1, kc⟩ : w.heap.size < w1.heap.size ∧ w1.cell? ⟨w.heap.size, 3, none⟩ = some (.int .i64 low) := by
      refine ⟨by have := k1.size; simp at this; omega, ?_⟩
      rw [k1.cell (p := ⟨w.heap.size, 3, none⟩) (by simp) (by
        rintro (e | e | e)
        · simp only at e; omega
        · exact HX.out.1 e
        · exact HX.out.2.1 e)]
      simp [go_sem]
    have hsz : (w.alloc (.cells #[.int .i64 op, .int .i64 left, .int .i64 right, .int .i64 low, .int .i64 high, .int .i64 step] 303)).heap.size = w.heap.size + 1 := by simp
    have K1 : Hid (KE G ev sv w w1) := ((Kp.refl _ w).alloc _).trans k1
    have O1 : Hid (Own w ev ev1) := (Own.refl w ev).trans (by omega) o1
    have O2 : Hid (Own w sv sv1) := (Own.refl w sv).trans (by omega) o2
    have G1 : Hid (GT w1 G B n ev1 sv1 gi go (es ++ [⟨tq, fr, -1⟩]) st) := g1
    have Q1 : Hid (∀ y ∈ es ++ [(⟨(tq : Int), (fr : Int), -1⟩ : Ed)], y.st < (N1 : Int)) := q1
    clear k1 o1 o2 g1 q1 q2 hsz
    by_cases hl : low = 0
    · have hl' : (low == 0) = true := by simp [hl]
      have HR : Hid (rdE low high fr tq = [⟨tq, fr, -1⟩] ++ [⟨fr, tq, -1⟩]) := by have := HRH.out; show _ = _; simp [rdE, this, hl]
      clear hl
      go_wp2_with fail
      refine (HT.out w1 ev1 sv1 _ G1.out (by simp; omega) Q1.out).mono ?_
      rintro e w2 ⟨rfl, ev2, sv2, g2, q1, q2, k2, o1, o2⟩
      have KK : Hid (GPostX G B gi go N1 N2 n ev sv ((es ++ [⟨tq, fr, -1⟩]) ++ [⟨fr, tq, -1⟩]) st w (.returned (.tuple #[])) w2) := ⟨rfl, ev2, sv2, g2, q1, q2, K1.out.trans O1.out O2.out k2, O1.out.trans (by omega) o1, O2.out.trans (by omega) o2⟩
      clear k2 o1 o2 g2 q1 q2
      go_wp2
      go_end0
      simp only [HR.out]
      rw [← List.append_assoc]
      exact KK.out
    · have hl' : (low == 0) = false := by simp [hl]
      have HR : Hid (rdE low high fr tq = [⟨tq, fr, -1⟩]) := by have := HRH.out; show _ = _; simp [rdE, this, hl]
      clear hl
      go_wp2
      go_end0
      simp only [HR.out]
      exact ⟨rfl, ev1, sv1, G1.out, Q1.out, S2.out, K1.out, O1.out, O2.out⟩
/-- What is asked of plain at part nl: just the edges X. -/
def PlainX (Q : TP) (ps : List Pt) (ss : List (St × Value)) (root win : Int) (G B : Nat) (gi go : Int) (N1 N2 nl N : Nat) (X : Nat → Nat → Nat → List Ed × Nat) : Prop :=
  ∀ (n : Nat) (ev sv : Value) (es : List Ed) (st : List Int) (fr tq : Nat) (w : World), TreeR w Q ps ss root win → GT w G B n ev sv gi go es st → (∀ y ∈ es, y.st < N1) → (∀ y ∈ st, 0 ≤ y ∧ y < N2) → fr < n → tq < n → n + N ≤ 100000 → es.length + N ≤ 100000 →
    Calls Tryz.prog 150 #[.pointer (some ⟨G, 0, none⟩), .pointer (some ⟨Q.T, 0, none⟩), .int .i64 nl, .int .i64 fr, .int .i64 tq] w (GPostX G B gi go N1 N2 (X fr tq n).2 ev sv (es ++ (X fr tq n).1) st w)
set_option maxRecDepth 100000 in
set_option maxHeartbeats 4000000 in
theorem plainOneX (Q : TP) (ps : List Pt) (ss : List (St × Value)) (root win : Int) (G B n : Nat) (ev sv : Value) (gi go : Int) (es : List Ed) (st : List Int) (N1 N2 : Nat) (fr tq i : Nat) (left right low high step : Int) (w : World)
    (ht : TreeR w Q ps ss root win) (h : GT w G B n ev sv gi go es st) (hx : ps[i]? = some ⟨0, left, right, low, high, step⟩) (s1 : ∀ y ∈ es, y.st < N1) (s2 : ∀ y ∈ st, 0 ≤ y ∧ y < N2) (hf : fr < n) (hto : tq < n) (hn : es.length + 1 ≤ 100000) (hst : step < N1) :
    Calls Tryz.prog 150 #[.pointer (some ⟨G, 0, none⟩), .pointer (some ⟨Q.T, 0, none⟩), .int .i64 i, .int .i64 fr, .int .i64 tq] w (GPostX G B gi go N1 N2 n ev sv (es ++ [⟨fr, tq, step⟩]) st w) := by
  have hil := (List.getElem?_eq_some_iff.1 hx).1
  obtain ⟨d0, d1, d2, d3, d4, d5⟩ := ht.part i _ hx
  have c0 := ht.c0
  have hT := ht.ltT
  have hp := ht.ltp
  have hnp := ht.np
  have H : Hid (GT w G B n ev sv gi go es st) := h
  have hl := h.gs.gr.lt
  have g1 := h.gs.gr.c1
  have fz := h.gs.gr.fz
  have hown := h.gs.own
  have hG := h.gs.hG
  have hB := h.gs.hB
  obtain ⟨T, gp, cp, gt, ct⟩ := Q
  simp only at c0 hT hp d0 d1 d2 d3 d4 d5
  have hn1 : ¬ T = w.heap.size := by omega
  have hn2 : ¬ gp = w.heap.size := by omega
  have hn3 : ¬ G = w.heap.size := by omega
  have hn4 : ¬ w.heap.size = G := by omega
  have hn5 : ¬ G = w.heap.size + 1 := by omega
  obtain ⟨i0, hi0, hz0, hz1, hz2⟩ := info_parts Tryz.info179
  have hge : Hid (∀ b, ev.ownBlock = some b → B ≤ b ∧ b < w.heap.size) := fun b hb => hown.lt b hb
  have hGn : ¬ some G = ev.ownBlock := by intro e; have := hge.out G e.symm; omega
  have S1 : Hid (∀ y ∈ es, y.st < N1) := s1
  have S2 : Hid (∀ y ∈ st, 0 ≤ y ∧ y < N2) := s2
  have HST : Hid (step < N1) := hst
  clear ht h hx s1 s2 hst
  go_enter Tryz.func150, Tryz.ntmps150
  go_wp2
  go_region_law
    ((refine step_append_lies _ (by rfl) _ _ _ (by rfl) B 179 i0 (.agg #[.int .i64 0, .int .i64 0, .int .i64 0]) 3 24 Tryz.underlying168 hi0 hz0 hz1 hz2 rfl (by omega) ev es.length (edsC es) (by rfl) (by exact (hown.alloc _).alloc _) ⟨w.heap.size + 1, 0, none⟩ 1 1 [.int .i64 fr, .int .i64 tq, .int .i64 step] (by rfl) (by rfl) (by exact news_snd w _ _ _) (by exact edC_one ⟨fr, tq, step⟩) (by omega) (by unfold maxLen; omega) (by omega) (by simp; omega) (w.heap.size + 2) (by simp) ?_; intro g cap w1 hown1 hgrow hat hlt; have kG : ∀ o, w1.cell? ⟨G, o, none⟩ = w.cell? ⟨G, o, none⟩ := (fun o => (hgrow.cell_far _ (by simp; omega) hGn).trans (by simp [go_sem, hl, World.cell?_alloc_past])); have kz : ∀ o, w1.frozen? ⟨G, o, none⟩ = w.frozen? ⟨G, o, none⟩ := (fun o => (hgrow.frozen_far _ (by simp; omega) hGn).trans (by simp [go_sem, hl, World.frozen?_alloc_past]))))
  all_goals
    have K1 : Hid (KG G ev w w1) := ((((Kp.refl _ w).alloc _).alloc _).drew).grown hgrow (fun b hb => Or.inr (Or.inr hb))
    have G1 : Hid (Gr w1 G n ev sv gi go) := H.out.gs.gr.sm ⟨kG, kz⟩
    have O1 : Hid (w1.ownsRow B 179 3 (.slice (some ⟨g, 0, none⟩) (es.length + 1) cap) (es ++ [(⟨fr, tq, step⟩ : Ed)]).length (edsC (es ++ [(⟨fr, tq, step⟩ : Ed)]))) := by
      have e1 : (es ++ [(⟨fr, tq, step⟩ : Ed)]).length = es.length + 1 := by simp
      have e2 : edsC (es ++ [(⟨fr, tq, step⟩ : Ed)]) = edsC es ++ edC ⟨fr, tq, step⟩ := by simp [edsC]
      show w1.ownsRow _ _ _ _ _ _
      rw [e1, e2]; exact hown1
    have OW : Hid (Own w ev (.slice (some ⟨g, 0, none⟩) (es.length + 1) cap)) := by
      intro b hb
      simp [Value.ownBlock] at hb
      subst hb
      rcases hat with e | e
      · exact Or.inl e
      · exact Or.inr (by omega)
    clear hown1 hgrow hat
    go_wp2
    go_end0
    have K2 : KG G ev w (w1.setCell ⟨G, 1, none⟩ (.slice (some ⟨g, 0, none⟩) (es.length + 1) cap)) := K1.out.setCell (p := ⟨G, 1, none⟩) (Or.inr (Or.inl rfl)) _
    have g2 : GS (w1.setCell ⟨G, 1, none⟩ (.slice (some ⟨g, 0, none⟩) (es.length + 1) cap)) G B n (.slice (some ⟨g, 0, none⟩) (es.length + 1) cap) sv gi go (es ++ [⟨fr, tq, step⟩]) := by
      refine ⟨G1.out.set1 _, ownsRow_setCell_below O1.out (a := ⟨G, 1, none⟩) hG _, hG, Nat.le_trans hB K2.size, by simp; omega, ?_⟩
      intro e he
      rcases List.mem_append.1 he with he | he
      · exact H.out.gs.ok e he
      · simp at he; subst he; simp; omega
    exact ⟨rfl, _, sv, H.out.free g2 K2, st_snoc S1.out HST.out, S2.out, K2.ke sv, OW.out, Own.refl _ _⟩
set_option maxRecDepth 100000 in
set_option maxHeartbeats 4000000 in
theorem plainRoundsX (Q : TP) (ps : List Pt) (ss : List (St × Value)) (root win : Int) (G B n : Nat) (ev sv : Value) (gi go : Int) (es : List Ed) (st : List Int) (N1 N2 fr tq i nl N : Nat) (X : Nat → Nat → Nat → List Ed × Nat) (right low high step : Int) (w : World) (ha : Apart Q G B)
    (ht : TreeR w Q ps ss root win) (h : GT w G B n ev sv gi go es st) (hx : ps[i]? = some ⟨3, nl, right, low, high, step⟩) (s1 : ∀ y ∈ es, y.st < N1) (s2 : ∀ y ∈ st, 0 ≤ y ∧ y < N2) (hf : fr < n) (hto : tq < n) (hn : n + (N + 5) ≤ 100000) (he : es.length + (N + 5) ≤ 100000)
    (hI : PlainX Q ps ss root win G B gi go N1 N2 nl N X) :
    Calls Tryz.prog 150 #[.pointer (some ⟨G, 0, none⟩), .pointer (some ⟨Q.T, 0, none⟩), .int .i64 i, .int .i64 fr, .int .i64 tq] w (GPostX G B gi go N1 N2 (X n (n + 1) (n + 2)).2 ev sv (es ++ ([⟨fr, n, -1⟩, ⟨(n + 1 : Nat), tq, -1⟩] ++ rdE low high n (n + 1) ++ (X n (n + 1) (n + 2)).1)) st w) := by
  have hil := (List.getElem?_eq_some_iff.1 hx).1
  obtain ⟨d0, d1, d2, d3, d4, d5⟩ := ht.part i _ hx
  have c0 := ht.c0
  have hT := ht.ltT
  have hp := ht.ltp
  have hnp := ht.np
  have hl := h.gs.gr.lt
  have S0 : Hid (PlSt w _ Q ps ss root win G B n ev sv gi go es st N1 N2 ev sv w.heap.size ⟨3, nl, right, low, high, step⟩) := PlSt.new ⟨3, nl, right, low, high, step⟩ ht h s1 s2 ha
  obtain ⟨T, gp, cp, gt, ct⟩ := Q
  simp only at c0 hT hp d0 d1 d2 d3 d4 d5
  have hn1 : ¬ T = w.heap.size := by omega
  have hn2 : ¬ gp = w.heap.size := by omega
  have hn3 : ¬ G = w.heap.size := by omega
  have hn4 : ¬ w.heap.size = G := by omega
  have HI : Hid (PlainX ⟨T, gp, cp, gt, ct⟩ ps ss root win G B gi go N1 N2 nl N X) := hI
  have hrl := rdE_len low high n (n + 1)
  have HRL : Hid ((rdE low high n (n + 1)).length ≤ 2) := hrl
  clear ht h hx s1 s2 hI hrl
  go_enter Tryz.func150, Tryz.ntmps150
  go_wp2_with fail
  refine (point_any G n ev sv gi go _ S0.out.gt.gs.gr (by omega)).mono ?_
  rintro e w1 ⟨rfl, hw1⟩
  have S1 : Hid (PlSt w w1 ⟨T, gp, cp, gt, ct⟩ ps ss root win G B (n + 1) ev sv gi go es st N1 N2 ev sv w.heap.size ⟨3, nl, right, low, high, step⟩) := S0.out.point hw1
  clear hw1 c0 d0 d1 d2 d3 d4 d5
  have p1 := S1.out.pc
  have z10 := p1.c0
  have z11 := p1.c1
  have z12 := p1.c2
  have z13 := p1.c3
  have z14 := p1.c4
  have z15 := p1.c5
  simp only at z10 z11 z12 z13 z14 z15
  clear p1
  go_wp2_with fail
  refine (point_any G (n + 1) ev sv gi go _ S1.out.gt.gs.gr (by omega)).mono ?_
  rintro e w2 ⟨rfl, hw2⟩
  have S2 : Hid (PlSt w w2 ⟨T, gp, cp, gt, ct⟩ ps ss root win G B (n + 2) ev sv gi go es st N1 N2 ev sv w.heap.size ⟨3, nl, right, low, high, step⟩) := S1.out.point hw2
  clear hw2
  clear z10 z11 z12 z13 z14 z15
  have p2 := S2.out.pc
  have z20 := p2.c0
  have z21 := p2.c1
  have z22 := p2.c2
  have z23 := p2.c3
  have z24 := p2.c4
  have z25 := p2.c5
  simp only at z20 z21 z22 z23 z24 z25
  clear p2
  go_wp2_with fail
  refine (freeX_any G B (n + 2) ev sv gi go es st N1 N2 fr n w2 S2.out.gt (by omega) (by omega) (by omega) S2.out.s1 S2.out.s2).mono ?_
  intro e w3 hP
  obtain ⟨he, ev3, sv3, s3⟩ := S2.out.atX hP
  subst he
  have S3 : Hid (PlSt w w3 ⟨T, gp, cp, gt, ct⟩ ps ss root win G B (n + 2) ev3 sv3 gi go (es ++ [⟨(fr : Int), (n : Int), -1⟩]) st N1 N2 ev sv w.heap.size ⟨3, nl, right, low, high, step⟩) := s3
  have p3 := S3.out.pc
  have z30 := p3.c0
  have z31 := p3.c1
  have z32 := p3.c2
  have z33 := p3.c3
  have z34 := p3.c4
  have z35 := p3.c5
  simp only at z30 z31 z32 z33 z34 z35
  clear hP s3 p3
  clear z20 z21 z22 z23 z24 z25
  go_wp2_with fail
  refine (freeX_any G B (n + 2) ev3 sv3 gi go _ st N1 N2 (n + 1) tq w3 S3.out.gt (by simp; omega) (by omega) (by omega) S3.out.s1 S3.out.s2).mono ?_
  intro e w4 hP
  obtain ⟨he, ev4, sv4, s4⟩ := S3.out.atX hP
  subst he
  have S4 : Hid (PlSt w w4 ⟨T, gp, cp, gt, ct⟩ ps ss root win G B (n + 2) ev4 sv4 gi go ((es ++ [⟨(fr : Int), (n : Int), -1⟩]) ++ [⟨((n + 1 : Nat) : Int), (tq : Int), -1⟩]) st N1 N2 ev sv w.heap.size ⟨3, nl, right, low, high, step⟩) := s4
  have p4 := S4.out.pc
  have z40 := p4.c0
  have z41 := p4.c1
  have z42 := p4.c2
  have z43 := p4.c3
  have z44 := p4.c4
  have z45 := p4.c5
  simp only at z40 z41 z42 z43 z44 z45
  clear hP s4 p4
  clear z30 z31 z32 z33 z34 z35
  go_wp2_with fail
  refine (roundX_any G B (n + 2) ev4 sv4 gi go _ st N1 N2 n (n + 1) ⟨3, nl, right, low, high, step⟩ w4 S4.out.gt (by simp; omega) (by omega) (by omega) S4.out.s1 S4.out.s2).mono ?_
  intro e w5 hP
  obtain ⟨he, ev5, sv5, s5⟩ := S4.out.atX hP
  subst he
  have S5 : Hid (PlSt w w5 ⟨T, gp, cp, gt, ct⟩ ps ss root win G B (n + 2) ev5 sv5 gi go (((es ++ [⟨(fr : Int), (n : Int), -1⟩]) ++ [⟨((n + 1 : Nat) : Int), (tq : Int), -1⟩]) ++ rdE low high n (n + 1)) st N1 N2 ev sv w.heap.size ⟨3, nl, right, low, high, step⟩) := s5
  have p5 := S5.out.pc
  have z50 := p5.c0
  have z51 := p5.c1
  have z52 := p5.c2
  have z53 := p5.c3
  have z54 := p5.c4
  have z55 := p5.c5
  simp only at z50 z51 z52 z53 z54 z55
  clear hP s5 p5
  clear z40 z41 z42 z43 z44 z45
  go_wp2_with fail
  refine (HI.out (n + 2) ev5 sv5 _ st n (n + 1) w5 S5.out.tr S5.out.gt S5.out.s1 S5.out.s2 (by omega) (by omega) (by omega) (by have := HRL.out; simp; omega)).mono ?_
  intro e w6 hP
  obtain ⟨he, ev6, sv6, s6⟩ := S5.out.atX hP
  subst he
  have S6 : Hid (PlSt w w6 ⟨T, gp, cp, gt, ct⟩ ps ss root win G B ((X n (n + 1) (n + 2)).2) ev6 sv6 gi go ((((es ++ [⟨(fr : Int), (n : Int), -1⟩]) ++ [⟨((n + 1 : Nat) : Int), (tq : Int), -1⟩]) ++ rdE low high n (n + 1)) ++ (X n (n + 1) (n + 2)).1) st N1 N2 ev sv w.heap.size ⟨3, nl, right, low, high, step⟩) := s6
  have p6 := S6.out.pc
  have z60 := p6.c0
  have z61 := p6.c1
  have z62 := p6.c2
  have z63 := p6.c3
  have z64 := p6.c4
  have z65 := p6.c5
  simp only at z60 z61 z62 z63 z64 z65
  clear hP s6 p6
  clear z50 z51 z52 z53 z54 z55
  go_wp2
  go_end0
  exact S6.out.postX (by simp [List.append_assoc])
set_option maxRecDepth 100000 in
set_option maxHeartbeats 4000000 in
theorem plainTwoX1 (Q : TP) (ps : List Pt) (ss : List (St × Value)) (root win : Int) (G B n : Nat) (ev sv : Value) (gi go : Int) (es : List Ed) (st : List Int) (N1 N2 fr tq i nl nr N M : Nat) (X Y : Nat → Nat → Nat → List Ed × Nat) (low high step : Int) (w : World) (ha : Apart Q G B)
    (ht : TreeR w Q ps ss root win) (h : GT w G B n ev sv gi go es st) (hx : ps[i]? = some ⟨1, nl, nr, low, high, step⟩) (s1 : ∀ y ∈ es, y.st < N1) (s2 : ∀ y ∈ st, 0 ≤ y ∧ y < N2) (hf : fr < n) (hto : tq < n) (hn : n + (N + M + 1) ≤ 100000) (he : es.length + (N + M + 1) ≤ 100000)
    (hI : PlainX Q ps ss root win G B gi go N1 N2 nl N X) (hJ : PlainX Q ps ss root win G B gi go N1 N2 nr M Y) (hXl : ∀ a b c, c ≤ (X a b c).2 ∧ (X a b c).2 ≤ c + N ∧ (X a b c).1.length ≤ N) :
    Calls Tryz.prog 150 #[.pointer (some ⟨G, 0, none⟩), .pointer (some ⟨Q.T, 0, none⟩), .int .i64 i, .int .i64 fr, .int .i64 tq] w (GPostX G B gi go N1 N2 (Y n tq (X fr n (n + 1)).2).2 ev sv (es ++ ((X fr n (n + 1)).1 ++ (Y n tq (X fr n (n + 1)).2).1)) st w) := by
  have hil := (List.getElem?_eq_some_iff.1 hx).1
  obtain ⟨d0, d1, d2, d3, d4, d5⟩ := ht.part i _ hx
  have c0 := ht.c0
  have hT := ht.ltT
  have hp := ht.ltp
  have hnp := ht.np
  have hl := h.gs.gr.lt
  have S0 : Hid (PlSt w _ Q ps ss root win G B n ev sv gi go es st N1 N2 ev sv w.heap.size ⟨1, nl, nr, low, high, step⟩) := PlSt.new ⟨1, nl, nr, low, high, step⟩ ht h s1 s2 ha
  obtain ⟨T, gp, cp, gt, ct⟩ := Q
  simp only at c0 hT hp d0 d1 d2 d3 d4 d5
  have hn1 : ¬ T = w.heap.size := by omega
  have hn2 : ¬ gp = w.heap.size := by omega
  have hn3 : ¬ G = w.heap.size := by omega
  have hn4 : ¬ w.heap.size = G := by omega
  have HI : Hid (PlainX ⟨T, gp, cp, gt, ct⟩ ps ss root win G B gi go N1 N2 nl N X) := hI
  have HJ : Hid (PlainX ⟨T, gp, cp, gt, ct⟩ ps ss root win G B gi go N1 N2 nr M Y) := hJ
  have HXL : Hid (∀ a b c, c ≤ (X a b c).2 ∧ (X a b c).2 ≤ c + N ∧ (X a b c).1.length ≤ N) := hXl
  clear ht h hx s1 s2 hI hJ hXl
  go_enter Tryz.func150, Tryz.ntmps150
  go_wp2_with fail
  refine (point_any G n ev sv gi go _ S0.out.gt.gs.gr (by omega)).mono ?_
  rintro e w1 ⟨rfl, hw1⟩
  have S1 : Hid (PlSt w w1 ⟨T, gp, cp, gt, ct⟩ ps ss root win G B (n + 1) ev sv gi go es st N1 N2 ev sv w.heap.size ⟨1, nl, nr, low, high, step⟩) := S0.out.point hw1
  clear hw1 c0 d0 d1 d2 d3 d4 d5
  have p1 := S1.out.pc
  have z10 := p1.c0
  have z11 := p1.c1
  have z12 := p1.c2
  have z13 := p1.c3
  have z14 := p1.c4
  have z15 := p1.c5
  simp only at z10 z11 z12 z13 z14 z15
  clear p1
  go_wp2_with fail
  refine (HI.out (n + 1) ev sv es st fr n w1 S1.out.tr S1.out.gt S1.out.s1 S1.out.s2 (by omega) (by omega) (by omega) (by omega)).mono ?_
  intro e w2 hP
  obtain ⟨he, ev2, sv2, s2⟩ := S1.out.atX hP
  subst he
  have S2 : Hid (PlSt w w2 ⟨T, gp, cp, gt, ct⟩ ps ss root win G B ((X fr n (n + 1)).2) ev2 sv2 gi go (es ++ (X fr n (n + 1)).1) st N1 N2 ev sv w.heap.size ⟨1, nl, nr, low, high, step⟩) := s2
  have p2 := S2.out.pc
  have z20 := p2.c0
  have z21 := p2.c1
  have z22 := p2.c2
  have z23 := p2.c3
  have z24 := p2.c4
  have z25 := p2.c5
  simp only at z20 z21 z22 z23 z24 z25
  clear hP s2 p2
  clear z10 z11 z12 z13 z14 z15
  go_wp2_with fail
  refine (HJ.out _ ev2 sv2 _ st n tq w2 S2.out.tr S2.out.gt S2.out.s1 S2.out.s2 (by have := HXL.out fr n (n + 1); omega) (by have := HXL.out fr n (n + 1); omega) (by have := HXL.out fr n (n + 1); omega) (by have := HXL.out fr n (n + 1); rw [List.length_append]; omega)).mono ?_
  intro e w3 hP
  obtain ⟨he, ev3, sv3, s3⟩ := S2.out.atX hP
  subst he
  have S3 : Hid (PlSt w w3 ⟨T, gp, cp, gt, ct⟩ ps ss root win G B ((Y n tq (X fr n (n + 1)).2).2) ev3 sv3 gi go ((es ++ (X fr n (n + 1)).1) ++ (Y n tq (X fr n (n + 1)).2).1) st N1 N2 ev sv w.heap.size ⟨1, nl, nr, low, high, step⟩) := s3
  have p3 := S3.out.pc
  have z30 := p3.c0
  have z31 := p3.c1
  have z32 := p3.c2
  have z33 := p3.c3
  have z34 := p3.c4
  have z35 := p3.c5
  simp only at z30 z31 z32 z33 z34 z35
  clear hP s3 p3
  clear z20 z21 z22 z23 z24 z25
  go_wp2
  go_end0
  exact S3.out.postX (by simp [List.append_assoc])
set_option maxRecDepth 100000 in
set_option maxHeartbeats 4000000 in
theorem plainTwoX2 (Q : TP) (ps : List Pt) (ss : List (St × Value)) (root win : Int) (G B n : Nat) (ev sv : Value) (gi go : Int) (es : List Ed) (st : List Int) (N1 N2 fr tq i nl nr N M : Nat) (X Y : Nat → Nat → Nat → List Ed × Nat) (low high step : Int) (w : World) (ha : Apart Q G B)
    (ht : TreeR w Q ps ss root win) (h : GT w G B n ev sv gi go es st) (hx : ps[i]? = some ⟨2, nl, nr, low, high, step⟩) (s1 : ∀ y ∈ es, y.st < N1) (s2 : ∀ y ∈ st, 0 ≤ y ∧ y < N2) (hf : fr < n) (hto : tq < n) (hn : n + (N + M + 1) ≤ 100000) (he : es.length + (N + M + 1) ≤ 100000)
    (hI : PlainX Q ps ss root win G B gi go N1 N2 nl N X) (hJ : PlainX Q ps ss root win G B gi go N1 N2 nr M Y) (hXl : ∀ a b c, c ≤ (X a b c).2 ∧ (X a b c).2 ≤ c + N ∧ (X a b c).1.length ≤ N) :
    Calls Tryz.prog 150 #[.pointer (some ⟨G, 0, none⟩), .pointer (some ⟨Q.T, 0, none⟩), .int .i64 i, .int .i64 fr, .int .i64 tq] w (GPostX G B gi go N1 N2 (Y fr tq (X fr tq n).2).2 ev sv (es ++ ((X fr tq n).1 ++ (Y fr tq (X fr tq n).2).1)) st w) := by
  have hil := (List.getElem?_eq_some_iff.1 hx).1
  obtain ⟨d0, d1, d2, d3, d4, d5⟩ := ht.part i _ hx
  have c0 := ht.c0
  have hT := ht.ltT
  have hp := ht.ltp
  have hnp := ht.np
  have hl := h.gs.gr.lt
  have S0 : Hid (PlSt w _ Q ps ss root win G B n ev sv gi go es st N1 N2 ev sv w.heap.size ⟨2, nl, nr, low, high, step⟩) := PlSt.new ⟨2, nl, nr, low, high, step⟩ ht h s1 s2 ha
  obtain ⟨T, gp, cp, gt, ct⟩ := Q
  simp only at c0 hT hp d0 d1 d2 d3 d4 d5
  have hn1 : ¬ T = w.heap.size := by omega
  have hn2 : ¬ gp = w.heap.size := by omega
  have hn3 : ¬ G = w.heap.size := by omega
  have hn4 : ¬ w.heap.size = G := by omega
  have HI : Hid (PlainX ⟨T, gp, cp, gt, ct⟩ ps ss root win G B gi go N1 N2 nl N X) := hI
  have HJ : Hid (PlainX ⟨T, gp, cp, gt, ct⟩ ps ss root win G B gi go N1 N2 nr M Y) := hJ
  have HXL : Hid (∀ a b c, c ≤ (X a b c).2 ∧ (X a b c).2 ≤ c + N ∧ (X a b c).1.length ≤ N) := hXl
  clear ht h hx s1 s2 hI hJ hXl
  go_enter Tryz.func150, Tryz.ntmps150
  go_wp2_with fail
  refine (HI.out n ev sv es st fr tq _ S0.out.tr S0.out.gt S0.out.s1 S0.out.s2 hf hto (by omega) (by omega)).mono ?_
  intro e w2 hP
  obtain ⟨he, ev2, sv2, s2⟩ := S0.out.atX hP
  subst he
  have S2 : Hid (PlSt w w2 ⟨T, gp, cp, gt, ct⟩ ps ss root win G B ((X fr tq n).2) ev2 sv2 gi go (es ++ (X fr tq n).1) st N1 N2 ev sv w.heap.size ⟨2, nl, nr, low, high, step⟩) := s2
  have p2 := S2.out.pc
  have z20 := p2.c0
  have z21 := p2.c1
  have z22 := p2.c2
  have z23 := p2.c3
  have z24 := p2.c4
  have z25 := p2.c5
  simp only at z20 z21 z22 z23 z24 z25
  clear hP s2 p2
  clear c0 d0 d1 d2 d3 d4 d5
  go_wp2_with fail
  refine (HJ.out _ ev2 sv2 _ st fr tq w2 S2.out.tr S2.out.gt S2.out.s1 S2.out.s2 (by have := HXL.out fr tq n; omega) (by have := HXL.out fr tq n; omega) (by have := HXL.out fr tq n; omega) (by have := HXL.out fr tq n; rw [List.length_append]; omega)).mono ?_
  intro e w3 hP
  obtain ⟨he, ev3, sv3, s3⟩ := S2.out.atX hP
  subst he
  have S3 : Hid (PlSt w w3 ⟨T, gp, cp, gt, ct⟩ ps ss root win G B ((Y fr tq (X fr tq n).2).2) ev3 sv3 gi go ((es ++ (X fr tq n).1) ++ (Y fr tq (X fr tq n).2).1) st N1 N2 ev sv w.heap.size ⟨2, nl, nr, low, high, step⟩) := s3
  have p3 := S3.out.pc
  have z30 := p3.c0
  have z31 := p3.c1
  have z32 := p3.c2
  have z33 := p3.c3
  have z34 := p3.c4
  have z35 := p3.c5
  simp only at z30 z31 z32 z33 z34 z35
  clear hP s3 p3
  clear z20 z21 z22 z23 z24 z25
  go_wp2
  go_end0
  exact S3.out.postX (by simp [List.append_assoc])
/-- plain: just the edges. -/
theorem plainX_any (Q : TP) (ps : List Pt) (ss : List (St × Value)) (root win : Int) (G B : Nat) (gi go : Int) (N1 N2 : Nat) (hwf : WfP ps N1) (ha : Apart Q G B) : ∀ (f i : Nat), i < f → i < ps.length → PlainX Q ps ss root win G B gi go N1 N2 i (pg ps f i) (fun a b c => plP ps f i a b c) := by
  intro f
  induction f with
  | zero => intro i hi; omega
  | succ f ih =>
    intro i hi hil n ev sv es st fr tq w ht h s1 s2 hf hto hn1 hn2
    obtain ⟨x, hx⟩ : ∃ x, ps[i]? = some x := ⟨ps[i], by simp [hil]⟩
    have hw := hwf i x hx
    have hpg : pg ps (f + 1) i = (if x.op = 0 then 1 else if x.op = 3 then pg ps f x.left.toNat + 5 else pg ps f x.left.toNat + pg ps f x.right.toNat + 1) := by simp only [pg, hx]
    rw [hpg] at hn1 hn2
    simp only [plP, hx]
    obtain ⟨op, left, right, low, high, step⟩ := x
    simp only at hw hn1 hn2 ⊢
    rcases hw with ⟨rfl, q0, q1⟩ | ⟨rfl, l0, l1, _, _, hh⟩ | ⟨hop, l0, l1, r0, r1⟩
    · refine (plainOneX Q ps ss root win G B n ev sv gi go es st N1 N2 fr tq i left right low high step w ht h hx s1 s2 hf hto hn2 q1).mono ?_
      intro e w' hp
      exact hp
    · obtain ⟨nl, rfl⟩ : ∃ nl : Nat, left = nl := ⟨left.toNat, by omega⟩
      exact plainRoundsX Q ps ss root win G B n ev sv gi go es st N1 N2 fr tq i nl (pg ps f nl) (fun a b c => plP ps f nl a b c) right low high step w ha ht h hx s1 s2 hf hto hn1 hn2 (ih nl (by omega) (by omega))
    · obtain ⟨nl, rfl⟩ : ∃ nl : Nat, left = nl := ⟨left.toNat, by omega⟩
      obtain ⟨nr, rfl⟩ : ∃ nr : Nat, right = nr := ⟨right.toNat, by omega⟩
      rcases hop with rfl | rfl
      · exact plainTwoX1 Q ps ss root win G B n ev sv gi go es st N1 N2 fr tq i nl nr (pg ps f nl) (pg ps f nr) (fun a b c => plP ps f nl a b c) (fun a b c => plP ps f nr a b c) low high step w ha ht h hx s1 s2 hf hto hn1 hn2 (ih nl (by omega) (by omega)) (ih nr (by omega) (by omega)) (fun a b c => plP_le ps f nl a b c)
      · exact plainTwoX2 Q ps ss root win G B n ev sv gi go es st N1 N2 fr tq i nl nr (pg ps f nl) (pg ps f nr) (fun a b c => plP ps f nl a b c) (fun a b c => plP ps f nr a b c) low high step w ha ht h hx s1 s2 hf hto hn1 hn2 (ih nl (by omega) (by omega)) (ih nr (by omega) (by omega)) (fun a b c => plP_le ps f nl a b c)
end Go.Proofs.YtcboiapggnmpfaaGreat
