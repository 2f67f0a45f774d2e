/- Walks: spotterref: the edges and places of a step that is written out. -/
import Derived.Test.YtcboiapggnmpfaaGreatQh
import Derived.Deep.DeepCutAuto
import Derived.Deep.LoopGhost
namespace Go.Proofs.YtcboiapggnmpfaaGreat
open Go.RowKit
set_option linter.unusedSimpArgs false
set_option linter.unusedVariables false

theorem Gr.set2 {w : World} {G n : Nat} {ev sv : Value} {i o : Int} (h : Gr w G n ev sv i o) (v : Value) : Gr (w.setCell ⟨G, 2, none⟩ v) G n ev v i o := by
  obtain ⟨c0, c1, c2, c3, c4, fz⟩ := h
  constructor <;> simp [go_sem, c0, c1, c2, c3, c4, fz]
theorem owns_lenG {w : World} {base n size : Nat} {e : TypeId} {v : Value} {xs : List Value} (h : w.ownsRow base e size v n xs) : ∃ p c, v = .slice p n c := by
  rcases h.2 with ⟨h2, h3⟩ | ⟨g', cap', cur, h2, _⟩
  · exact ⟨none, 0, by rw [h2, h3]⟩
  · exact ⟨_, _, h2⟩
theorem intC_one (x : Int) : ∀ u ∈ [Value.int .i64 x], u.oneCell' = true := by
  intro u hu
  simp only [List.mem_cons, List.not_mem_nil, or_false] at hu
  subst hu; rfl
set_option maxRecDepth 100000 in
set_option maxHeartbeats 4000000 in
theorem spreadOne (Q : TP) (ps : List Pt) (ss : List (St × Value)) (root win : Int) (G B n : Nat) (ev sv : Value) (gi go : Int) (es : List Ed) (st : List Int) (N1 N2 : Nat) (fr tq : Int) (i : Nat) (left right low high step : Int) (w : World) (ha : Apart Q G B)
    (ht : TreeR w Q ps ss root win) (h : GT w G B n ev sv gi go es st) (hx : ps[i]? = some ⟨0, left, right, low, high, step⟩) (s1 : ∀ y ∈ es, y.st < N1) (s2 : ∀ y ∈ st, 0 ≤ y ∧ y < N2) (hf : 0 ≤ fr ∧ fr < n) (hto : 0 ≤ tq ∧ tq < n) (hn : es.length + 1 ≤ 100000) (hs : st.length + 1 ≤ 100000) (hst : 0 ≤ step ∧ step < N2) (hN1 : 100000 ≤ N1) :
    Calls Tryz.prog 145 #[.pointer (some ⟨G, 0, none⟩), .pointer (some ⟨Q.T, 0, none⟩), .int .i64 i, .int .i64 fr, .int .i64 tq] w (GPost G B gi go N1 N2 n ev sv es.length st.length 1 1 1 w) := by
  have hil := (List.getElem?_eq_some_iff.1 hx).1
  obtain ⟨d0, d1, d2, d3, d4, d5⟩ := ht.part i _ hx
  have c0 := ht.c0
  have hT := ht.ltT
  have hp := ht.ltp
  have hnp := ht.np
  have H : Hid (GT w G B n ev sv gi go es st) := h
  have S0 : Hid (PlSt w _ Q ps ss root win G B n ev sv gi go es st N1 N2 ev sv w.heap.size ⟨0, left, right, low, high, step⟩) := PlSt.new ⟨0, left, right, low, high, step⟩ ht h s1 s2 ha
  have hl := h.gs.gr.lt
  have g1 := h.gs.gr.c1
  have g2 := h.gs.gr.c2
  have fz := h.gs.gr.fz
  have hown := h.gs.own
  have hG := h.gs.hG
  have hB := h.gs.hB
  obtain ⟨svp, svc, hsv⟩ := owns_lenG h.own2
  subst hsv
  obtain ⟨T, gp, cp, gt, ct⟩ := Q
  simp only at c0 hT hp d0 d1 d2 d3 d4 d5
  have hn1 : ¬ T = w.heap.size := by omega
  have hn2 : ¬ gp = w.heap.size := by omega
  have hn3 : ¬ G = w.heap.size := by omega
  have hn4 : ¬ w.heap.size = G := by omega
  have hn5 : ¬ G = w.heap.size + 1 := by omega
  obtain ⟨i0, hi0, hz0, hz1, hz2⟩ := info_parts Tryz.info179
  obtain ⟨i1, hi1, hy0, hy1, hy2⟩ := info_parts Tryz.info3
  have hge : Hid (∀ b, ev.ownBlock = some b → B ≤ b ∧ b < w.heap.size) := fun b hb => hown.lt b hb
  have hGn : ¬ some G = ev.ownBlock := by intro e; have := hge.out G e.symm; omega
  have S1 : Hid (∀ y ∈ es, y.st < N1) := s1
  have S2 : Hid (∀ y ∈ st, 0 ≤ y ∧ y < N2) := s2
  have HST : Hid (0 ≤ step ∧ step < N2) := hst
  have HF : Hid (0 ≤ fr ∧ fr < n) := hf
  have HT : Hid (0 ≤ tq ∧ tq < n) := hto
  clear ht h hx s1 s2 hst hf hto
  go_enter Tryz.func145, Tryz.ntmps145
  go_upto_region 3 with fail
  go_cut [10] (fun p wx => p = .pointer (some ⟨w.heap.size, 0, none⟩) ∧ ∃ ev', PlSt w wx ⟨T, gp, cp, gt, ct⟩ ps ss root win G B n ev' (.slice svp st.length svc) gi go (es ++ [⟨fr, tq, st.length⟩]) st N1 N2 ev (.slice svp st.length svc) w.heap.size ⟨0, left, right, low, high, step⟩)
  case first =>
    go_region_law
      ((refine step_append_lies _ (by rfl) _ _ _ (by rfl) B 179 i0 (.agg #[.int .i64 0, .int .i64 0, .int .i64 0]) 3 24 Tryz.underlying168 hi0 hz0 hz1 hz2 rfl (by omega) ev es.length (edsC es) (by rfl) (by exact (hown.alloc _).alloc _) ⟨w.heap.size + 1, 0, none⟩ 1 1 [.int .i64 fr, .int .i64 tq, .int .i64 st.length] (by rfl) (by rfl) (by exact news_snd w _ _ _) (by exact edC_one ⟨fr, tq, st.length⟩) (by omega) (by unfold maxLen; omega) (by omega) (by simp; omega) (w.heap.size + 2) (by simp) ?_; intro g cap w1 hown1 hgrow hat hlt; have kG : ∀ o, w1.cell? ⟨G, o, none⟩ = w.cell? ⟨G, o, none⟩ := (fun o => (hgrow.cell_far _ (by simp; omega) hGn).trans (by simp [go_sem, hl, World.cell?_alloc_past])); have kz : ∀ o, w1.frozen? ⟨G, o, none⟩ = w.frozen? ⟨G, o, none⟩ := (fun o => (hgrow.frozen_far _ (by simp; omega) hGn).trans (by simp [go_sem, hl, World.frozen?_alloc_past]))))
    all_goals
      have K1 : Hid (KG G ev w w1) := ((((Kp.refl _ w).alloc _).alloc _).drew).grown hgrow (fun b hb => Or.inr (Or.inr hb))
      have K1' : Hid (KG G ev (w.alloc (.cells #[.int .i64 0, .int .i64 left, .int .i64 right, .int .i64 low, .int .i64 high, .int .i64 step] 303)) w1) := (((Kp.refl _ _).alloc _).drew).grown hgrow (fun b hb => Or.inr (Or.inr hb))
      have G1 : Hid (Gr w1 G n ev (.slice svp st.length svc) gi go) := H.out.gs.gr.sm ⟨kG, kz⟩
      have O1 : Hid (w1.ownsRow B 179 3 (.slice (some ⟨g, 0, none⟩) (es.length + 1) cap) (es ++ [(⟨fr, tq, st.length⟩ : Ed)]).length (edsC (es ++ [(⟨fr, tq, st.length⟩ : Ed)]))) := by
        have e1 : (es ++ [(⟨fr, tq, st.length⟩ : Ed)]).length = es.length + 1 := by simp
        have e2 : edsC (es ++ [(⟨fr, tq, st.length⟩ : Ed)]) = edsC es ++ edC ⟨fr, tq, st.length⟩ := by simp [edsC]
        show w1.ownsRow _ _ _ _ _ _
        rw [e1, e2]; exact hown1
      have OW : Hid (Own (w.alloc (.cells #[.int .i64 0, .int .i64 left, .int .i64 right, .int .i64 low, .int .i64 high, .int .i64 step] 303)) ev (.slice (some ⟨g, 0, none⟩) (es.length + 1) cap)) := by
        intro b hb
        simp [Value.ownBlock] at hb
        subst hb
        rcases hat with e | e
        · exact Or.inl e
        · exact Or.inr (by simp; omega)
      clear hown1 hgrow hat
      go_wp2
      go_meet
      case rel =>
        have K2 : KG G ev w (w1.setCell ⟨G, 1, none⟩ (.slice (some ⟨g, 0, none⟩) (es.length + 1) cap)) := K1.out.setCell (p := ⟨G, 1, none⟩) (Or.inr (Or.inl rfl)) _
        have K3 : KG G ev (w.alloc (.cells #[.int .i64 0, .int .i64 left, .int .i64 right, .int .i64 low, .int .i64 high, .int .i64 step] 303)) (w1.setCell ⟨G, 1, none⟩ (.slice (some ⟨g, 0, none⟩) (es.length + 1) cap)) := K1'.out.setCell (p := ⟨G, 1, none⟩) (Or.inr (Or.inl rfl)) _
        have g2 : GS (w1.setCell ⟨G, 1, none⟩ (.slice (some ⟨g, 0, none⟩) (es.length + 1) cap)) G B n (.slice (some ⟨g, 0, none⟩) (es.length + 1) cap) (.slice svp st.length svc) gi go (es ++ [⟨fr, tq, st.length⟩]) := by
          refine ⟨G1.out.set1 _, ownsRow_setCell_below O1.out (a := ⟨G, 1, none⟩) hG _, hG, Nat.le_trans hB K2.size, by simp; omega, ?_⟩
          intro e he
          rcases List.mem_append.1 he with he | he
          · exact H.out.gs.ok e he
          · simp at he; subst he; exact ⟨HF.out.1, HF.out.2, HT.out.1, HT.out.2⟩
        exact ⟨rfl, _, S0.out.next (H.out.free g2 K2) (st_snoc S1.out (by simp; omega)) S2.out (K3.ke _) OW.out (Own.refl _ _)⟩
  case rest =>
    obtain ⟨rfl, ev', hS⟩ := hcut
    have S3 : Hid (PlSt w wc ⟨T, gp, cp, gt, ct⟩ ps ss root win G B n ev' (.slice svp st.length svc) gi go (es ++ [⟨fr, tq, st.length⟩]) st N1 N2 ev (.slice svp st.length svc) w.heap.size ⟨0, left, right, low, high, step⟩) := hS
    have e2 := hS.gt.gs.gr.c2
    have efz := hS.gt.gs.gr.fz
    have el := hS.gt.gs.gr.lt
    have eown := hS.gt.own2
    have ex := hS.pc.c5
    have exl := hS.pc.lt
    have eB := hS.gt.gs.hB
    have hgs : Hid (∀ b, (Value.slice svp st.length svc).ownBlock = some b → B ≤ b ∧ b < wc.heap.size) := fun b hb => eown.lt b hb
    have hGs : ¬ some G = (Value.slice svp st.length svc).ownBlock := by intro e; have := hgs.out G e.symm; omega
    have hm1 : ¬ G = wc.heap.size := by omega
    have hm2 : ¬ w.heap.size = wc.heap.size := by omega
    simp only at ex
    clear hS c0 d0 d1 d2 d3 d4 d5 g1 g2 fz hown S0 H S1 S2 hn1 hn2 hn3 hn5 hge hGn
    go_wp2
    go_region_law
      ((refine step_append_lies _ (by rfl) _ _ _ (by rfl) B 3 i1 (.int .i64 0) 1 8 Tryz.underlying73 hi1 hy0 hy1 hy2 rfl (by omega) (.slice svp st.length svc) st.length (st.map (Value.int .i64)) (by rfl) (by exact eown.alloc _) ⟨wc.heap.size, 0, none⟩ 1 1 [.int .i64 step] (by rfl) (by rfl) (by exact news_one wc rfl _ _) (by exact intC_one step) (by omega) (by unfold maxLen; omega) (by omega) (by simp; omega) (wc.heap.size + 1) (by simp) ?_; intro g cap w1 hown1 hgrow hat hlt; have kG : ∀ o, w1.cell? ⟨G, o, none⟩ = wc.cell? ⟨G, o, none⟩ := (fun o => (hgrow.cell_far _ (by simp; omega) hGs).trans (by simp [go_sem, el, World.cell?_alloc_past])); have kz : ∀ o, w1.frozen? ⟨G, o, none⟩ = wc.frozen? ⟨G, o, none⟩ := (fun o => (hgrow.frozen_far _ (by simp; omega) hGs).trans (by simp [go_sem, el, World.frozen?_alloc_past]))))
    all_goals
      have K1 : Hid (KG G (.slice svp st.length svc) wc w1) := ((((Kp.refl _ wc).alloc _)).drew).grown hgrow (fun b hb => Or.inr (Or.inr hb))
      have G1 : Hid (Gr w1 G n ev' (.slice svp st.length svc) gi go) := S3.out.gt.gs.gr.sm ⟨kG, kz⟩
      have O1 : Hid (w1.ownsRow B 3 1 (.slice (some ⟨g, 0, none⟩) (st.length + 1) cap) (st ++ [step]).length ((st ++ [step]).map (Value.int .i64))) := by
        have e1 : (st ++ [step]).length = st.length + 1 := by simp
        have e2 : (st ++ [step]).map (Value.int .i64) = st.map (Value.int .i64) ++ [.int .i64 step] := by simp
        show w1.ownsRow _ _ _ _ _ _
        rw [e1, e2]; exact hown1
      have OW : Hid (Own wc (.slice svp st.length svc) (.slice (some ⟨g, 0, none⟩) (st.length + 1) cap)) := by
        intro b hb
        simp [Value.ownBlock] at hb
        subst hb
        rcases hat with e | e
        · exact Or.inl e
        · exact Or.inr (by omega)
      clear hown1 hgrow hat
      go_wp2
      go_end0
      have K2 : KG G (.slice svp st.length svc) wc (w1.setCell ⟨G, 2, none⟩ (.slice (some ⟨g, 0, none⟩) (st.length + 1) cap)) := K1.out.setCell (p := ⟨G, 2, none⟩) (Or.inr (Or.inl rfl)) _
      have g2 : GT (w1.setCell ⟨G, 2, none⟩ (.slice (some ⟨g, 0, none⟩) (st.length + 1) cap)) G B n ev' (.slice (some ⟨g, 0, none⟩) (st.length + 1) cap) gi go (es ++ [⟨fr, tq, st.length⟩]) (st ++ [step]) := by
        refine ⟨⟨G1.out.set2 _, owns_apart S3.out.gt.gs.own S3.out.gt.own2 (by decide) hG K2, hG, Nat.le_trans eB K2.size, S3.out.gt.gs.ne, S3.out.gt.gs.ok⟩, ownsRow_setCell_below O1.out (a := ⟨G, 2, none⟩) hG _, by simp; omega⟩
      have K3 : KE G ev' (.slice svp st.length svc) wc (w1.setCell ⟨G, 2, none⟩ (.slice (some ⟨g, 0, none⟩) (st.length + 1) cap)) := Kp.mono K2 (fun i _ h => h.elim Or.inl (fun e => Or.inr (Or.inr e)))
      refine (S3.out.next g2 S3.out.s1 ?_ K3 (Own.refl _ _) OW.out).post (Nat.le_refl _) (by omega) (by simp) (by simp)
      intro y hy
      rcases List.mem_append.1 hy with hy | hy
      · exact S3.out.s2 y hy
      · simp at hy; subst hy; exact HST.out
end Go.Proofs.YtcboiapggnmpfaaGreat
