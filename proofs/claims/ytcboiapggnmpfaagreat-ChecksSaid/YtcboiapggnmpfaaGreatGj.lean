/- Walks: spotterref: the edges and places of a part that is written out. -/
import Derived.Test.YtcboiapggnmpfaaGreatGi
namespace Go.Proofs.YtcboiapggnmpfaaGreat
open Go.RowKit
set_option linter.unusedSimpArgs false
set_option linter.unusedVariables false

set_option maxRecDepth 100000 in
set_option maxHeartbeats 4000000 in
theorem spreadTwo1 (Q : TP) (ps : List Pt) (ss : List (St × Value)) (root win : Int) (G B n : Nat) (ev sv : Value) (gi go : Int) (es : List Ed) (st : List Int) (N1 N2 : Nat) (fr tq : Int) (i nl nr N M LN LM : Nat) (low high step : Int) (w : World) (ha : Apart Q G B)
    (ht : TreeR w Q ps ss root win) (h : GT w G B n ev sv gi go es st) (hx : ps[i]? = some ⟨1, nl, nr, low, high, step⟩) (s1 : ∀ y ∈ es, y.st < N1) (s2 : ∀ y ∈ st, 0 ≤ y ∧ y < N2) (hf : 0 ≤ fr ∧ fr < n) (hto : 0 ≤ tq ∧ tq < n) (hn : n + (N + M + 1) ≤ 100000) (he : es.length + (N + M + 1) ≤ 100000) (hs : st.length + (LN + LM) ≤ 100000)
    (hI : PlainOk 145 Q ps ss root win G B gi go N1 N2 nl N LN) (hJ : PlainOk 145 Q ps ss root win G B gi go N1 N2 nr M LM) :
    Calls Tryz.prog 145 #[.pointer (some ⟨G, 0, none⟩), .pointer (some ⟨Q.T, 0, none⟩), .int .i64 i, .int .i64 fr, .int .i64 tq] w (GPost G B gi go N1 N2 n ev sv es.length st.length (N + M + 1) (N + M + 1) (LN + LM) w) := by
  have hil := (List.getElem?_eq_some_iff.1 hx).1
  obtain ⟨d0, d1, d2, d3, d4, d5⟩ := ht.part i _ hx
  have c0 := ht.c0
  have hT := ht.ltT
  have hp := ht.ltp
  have hnp := ht.np
  have hl := h.gs.gr.lt
  have S0 : Hid (PlSt w _ Q ps ss root win G B n ev sv gi go es st N1 N2 ev sv w.heap.size ⟨1, nl, nr, low, high, step⟩) := PlSt.new ⟨1, nl, nr, low, high, step⟩ ht h s1 s2 ha
  obtain ⟨T, gp, cp, gt, ct⟩ := Q
  simp only at c0 hT hp d0 d1 d2 d3 d4 d5
  have hn1 : ¬ T = w.heap.size := by omega
  have hn2 : ¬ gp = w.heap.size := by omega
  have hn3 : ¬ G = w.heap.size := by omega
  have hn4 : ¬ w.heap.size = G := by omega
  have HI : Hid (PlainOk 145 ⟨T, gp, cp, gt, ct⟩ ps ss root win G B gi go N1 N2 nl N LN) := hI
  have HJ : Hid (PlainOk 145 ⟨T, gp, cp, gt, ct⟩ ps ss root win G B gi go N1 N2 nr M LM) := hJ
  have HF : Hid (0 ≤ fr ∧ fr < n) := hf
  have HT : Hid (0 ≤ tq ∧ tq < n) := hto
  clear ht h hx s1 s2 hI hJ hf hto
  go_enter Tryz.func145, Tryz.ntmps145
  go_wp2_with fail
  refine (point_any G n ev sv gi go _ S0.out.gt.gs.gr (by omega)).mono ?_
  rintro e w1 ⟨rfl, hw1⟩
  have S1 : Hid (PlSt w w1 ⟨T, gp, cp, gt, ct⟩ ps ss root win G B (n + 1) ev sv gi go es st N1 N2 ev sv w.heap.size ⟨1, nl, nr, low, high, step⟩) := S0.out.point hw1
  clear hw1 c0 d0 d1 d2 d3 d4 d5
  have p1 := S1.out.pc
  have z10 := p1.c0
  have z11 := p1.c1
  have z12 := p1.c2
  have z13 := p1.c3
  have z14 := p1.c4
  have z15 := p1.c5
  simp only at z10 z11 z12 z13 z14 z15
  clear p1
  go_wp2_with fail
  refine (HI.out (n + 1) ev sv es st fr (n : Int) w1 S1.out.tr S1.out.gt S1.out.s1 S1.out.s2 (by have := HF.out; omega) (by omega) (by omega) (by omega) (by omega)).mono ?_
  intro e w2 hP
  obtain ⟨he, n2, ev2, sv2, es2, st2, s2, b1, b2, b3, b4⟩ := S1.out.at hP
  subst he
  have S2 : Hid (PlSt w w2 ⟨T, gp, cp, gt, ct⟩ ps ss root win G B n2 ev2 sv2 gi go es2 st2 N1 N2 ev sv w.heap.size ⟨1, nl, nr, low, high, step⟩) := s2
  have q21 := b1
  have q22 := b2
  have q23 := b3
  have q24 := b4
  have p2 := S2.out.pc
  have z20 := p2.c0
  have z21 := p2.c1
  have z22 := p2.c2
  have z23 := p2.c3
  have z24 := p2.c4
  have z25 := p2.c5
  simp only at z20 z21 z22 z23 z24 z25
  clear hP s2 b1 b2 b3 b4 p2
  clear z10 z11 z12 z13 z14 z15
  go_wp2_with fail
  refine (HJ.out n2 ev2 sv2 es2 st2 (n : Int) tq w2 S2.out.tr S2.out.gt S2.out.s1 S2.out.s2 (by omega) (by have := HT.out; omega) (by omega) (by omega) (by omega)).mono ?_
  intro e w3 hP
  obtain ⟨he, n3, ev3, sv3, es3, st3, s3, b1, b2, b3, b4⟩ := S2.out.at hP
  subst he
  have S3 : Hid (PlSt w w3 ⟨T, gp, cp, gt, ct⟩ ps ss root win G B n3 ev3 sv3 gi go es3 st3 N1 N2 ev sv w.heap.size ⟨1, nl, nr, low, high, step⟩) := s3
  have q31 := b1
  have q32 := b2
  have q33 := b3
  have q34 := b4
  have p3 := S3.out.pc
  have z30 := p3.c0
  have z31 := p3.c1
  have z32 := p3.c2
  have z33 := p3.c3
  have z34 := p3.c4
  have z35 := p3.c5
  simp only at z30 z31 z32 z33 z34 z35
  clear hP s3 b1 b2 b3 b4 p3
  clear z20 z21 z22 z23 z24 z25
  go_wp2
  go_end0
  exact S3.out.post (by omega) (by omega) (by omega) (by omega)
set_option maxRecDepth 100000 in
set_option maxHeartbeats 4000000 in
theorem spreadTwo2 (Q : TP) (ps : List Pt) (ss : List (St × Value)) (root win : Int) (G B n : Nat) (ev sv : Value) (gi go : Int) (es : List Ed) (st : List Int) (N1 N2 : Nat) (fr tq : Int) (i nl nr N M LN LM : Nat) (low high step : Int) (w : World) (ha : Apart Q G B)
    (ht : TreeR w Q ps ss root win) (h : GT w G B n ev sv gi go es st) (hx : ps[i]? = some ⟨2, nl, nr, low, high, step⟩) (s1 : ∀ y ∈ es, y.st < N1) (s2 : ∀ y ∈ st, 0 ≤ y ∧ y < N2) (hf : 0 ≤ fr ∧ fr < n) (hto : 0 ≤ tq ∧ tq < n) (hn : n + (N + M + 1) ≤ 100000) (he : es.length + (N + M + 1) ≤ 100000) (hs : st.length + (LN + LM) ≤ 100000)
    (hI : PlainOk 145 Q ps ss root win G B gi go N1 N2 nl N LN) (hJ : PlainOk 145 Q ps ss root win G B gi go N1 N2 nr M LM) :
    Calls Tryz.prog 145 #[.pointer (some ⟨G, 0, none⟩), .pointer (some ⟨Q.T, 0, none⟩), .int .i64 i, .int .i64 fr, .int .i64 tq] w (GPost G B gi go N1 N2 n ev sv es.length st.length (N + M + 1) (N + M + 1) (LN + LM) w) := by
  have hil := (List.getElem?_eq_some_iff.1 hx).1
  obtain ⟨d0, d1, d2, d3, d4, d5⟩ := ht.part i _ hx
  have c0 := ht.c0
  have hT := ht.ltT
  have hp := ht.ltp
  have hnp := ht.np
  have hl := h.gs.gr.lt
  have S0 : Hid (PlSt w _ Q ps ss root win G B n ev sv gi go es st N1 N2 ev sv w.heap.size ⟨2, nl, nr, low, high, step⟩) := PlSt.new ⟨2, nl, nr, low, high, step⟩ ht h s1 s2 ha
  obtain ⟨T, gp, cp, gt, ct⟩ := Q
  simp only at c0 hT hp d0 d1 d2 d3 d4 d5
  have hn1 : ¬ T = w.heap.size := by omega
  have hn2 : ¬ gp = w.heap.size := by omega
  have hn3 : ¬ G = w.heap.size := by omega
  have hn4 : ¬ w.heap.size = G := by omega
  have HI : Hid (PlainOk 145 ⟨T, gp, cp, gt, ct⟩ ps ss root win G B gi go N1 N2 nl N LN) := hI
  have HJ : Hid (PlainOk 145 ⟨T, gp, cp, gt, ct⟩ ps ss root win G B gi go N1 N2 nr M LM) := hJ
  have HF : Hid (0 ≤ fr ∧ fr < n) := hf
  have HT : Hid (0 ≤ tq ∧ tq < n) := hto
  clear ht h hx s1 s2 hI hJ hf hto
  go_enter Tryz.func145, Tryz.ntmps145
  go_wp2_with fail
  refine (HI.out n ev sv es st fr tq _ S0.out.tr S0.out.gt S0.out.s1 S0.out.s2 HF.out HT.out (by omega) (by omega) (by omega)).mono ?_
  intro e w2 hP
  obtain ⟨he, n2, ev2, sv2, es2, st2, s2, b1, b2, b3, b4⟩ := S0.out.at hP
  subst he
  have S2 : Hid (PlSt w w2 ⟨T, gp, cp, gt, ct⟩ ps ss root win G B n2 ev2 sv2 gi go es2 st2 N1 N2 ev sv w.heap.size ⟨2, nl, nr, low, high, step⟩) := s2
  have q21 := b1
  have q22 := b2
  have q23 := b3
  have q24 := b4
  have p2 := S2.out.pc
  have z20 := p2.c0
  have z21 := p2.c1
  have z22 := p2.c2
  have z23 := p2.c3
  have z24 := p2.c4
  have z25 := p2.c5
  simp only at z20 z21 z22 z23 z24 z25
  clear hP s2 b1 b2 b3 b4 p2
  clear c0 d0 d1 d2 d3 d4 d5
  go_wp2_with fail
  refine (HJ.out n2 ev2 sv2 es2 st2 fr tq w2 S2.out.tr S2.out.gt S2.out.s1 S2.out.s2 (by have := HF.out; omega) (by have := HT.out; omega) (by omega) (by omega) (by omega)).mono ?_
  intro e w3 hP
  obtain ⟨he, n3, ev3, sv3, es3, st3, s3, b1, b2, b3, b4⟩ := S2.out.at hP
  subst he
  have S3 : Hid (PlSt w w3 ⟨T, gp, cp, gt, ct⟩ ps ss root win G B n3 ev3 sv3 gi go es3 st3 N1 N2 ev sv w.heap.size ⟨2, nl, nr, low, high, step⟩) := s3
  have q31 := b1
  have q32 := b2
  have q33 := b3
  have q34 := b4
  have p3 := S3.out.pc
  have z30 := p3.c0
  have z31 := p3.c1
  have z32 := p3.c2
  have z33 := p3.c3
  have z34 := p3.c4
  have z35 := p3.c5
  simp only at z30 z31 z32 z33 z34 z35
  clear hP s3 b1 b2 b3 b4 p3
  clear z20 z21 z22 z23 z24 z25
  go_wp2
  go_end0
  exact S3.out.post (by omega) (by omega) (by omega) (by omega)
set_option maxRecDepth 100000 in
set_option maxHeartbeats 4000000 in
theorem spreadMany (Q : TP) (ps : List Pt) (ss : List (St × Value)) (root win : Int) (G B n : Nat) (ev sv : Value) (gi go : Int) (es : List Ed) (st : List Int) (N1 N2 : Nat) (fr tq : Int) (i nl N LN : Nat) (right low step : Int) (w : World) (ha : Apart Q G B)
    (ht : TreeR w Q ps ss root win) (h : GT w G B n ev sv gi go es st) (hx : ps[i]? = some ⟨3, nl, right, low, -1, step⟩) (s1 : ∀ y ∈ es, y.st < N1) (s2 : ∀ y ∈ st, 0 ≤ y ∧ y < N2) (hf : 0 ≤ fr ∧ fr < n) (hto : 0 ≤ tq ∧ tq < n) (hn : n + (N + 5) ≤ 100000) (he : es.length + (N + 5) ≤ 100000) (hs : st.length + LN ≤ 100000)
    (hI : PlainOk 145 Q ps ss root win G B gi go N1 N2 nl N LN) :
    Calls Tryz.prog 145 #[.pointer (some ⟨G, 0, none⟩), .pointer (some ⟨Q.T, 0, none⟩), .int .i64 i, .int .i64 fr, .int .i64 tq] w (GPost G B gi go N1 N2 n ev sv es.length st.length (N + 5) (N + 5) LN w) := by
  have hil := (List.getElem?_eq_some_iff.1 hx).1
  obtain ⟨d0, d1, d2, d3, d4, d5⟩ := ht.part i _ hx
  have c0 := ht.c0
  have hT := ht.ltT
  have hp := ht.ltp
  have hnp := ht.np
  have hl := h.gs.gr.lt
  have S0 : Hid (PlSt w _ Q ps ss root win G B n ev sv gi go es st N1 N2 ev sv w.heap.size ⟨3, nl, right, low, -1, step⟩) := PlSt.new ⟨3, nl, right, low, -1, step⟩ ht h s1 s2 ha
  obtain ⟨T, gp, cp, gt, ct⟩ := Q
  simp only at c0 hT hp d0 d1 d2 d3 d4 d5
  have hn1 : ¬ T = w.heap.size := by omega
  have hn2 : ¬ gp = w.heap.size := by omega
  have hn3 : ¬ G = w.heap.size := by omega
  have hn4 : ¬ w.heap.size = G := by omega
  have HI : Hid (PlainOk 145 ⟨T, gp, cp, gt, ct⟩ ps ss root win G B gi go N1 N2 nl N LN) := hI
  have HF : Hid (0 ≤ fr ∧ fr < n) := hf
  have HT : Hid (0 ≤ tq ∧ tq < n) := hto
  clear ht h hx s1 s2 hI hf hto
  go_enter Tryz.func145, Tryz.ntmps145
  go_wp2_with fail
  refine (point_any G n ev sv gi go _ S0.out.gt.gs.gr (by omega)).mono ?_
  rintro e w1 ⟨rfl, hw1⟩
  have S1 : Hid (PlSt w w1 ⟨T, gp, cp, gt, ct⟩ ps ss root win G B (n + 1) ev sv gi go es st N1 N2 ev sv w.heap.size ⟨3, nl, right, low, -1, step⟩) := S0.out.point hw1
  clear hw1 c0 d0 d1 d2 d3 d4 d5
  have p1 := S1.out.pc
  have z10 := p1.c0
  have z11 := p1.c1
  have z12 := p1.c2
  have z13 := p1.c3
  have z14 := p1.c4
  have z15 := p1.c5
  simp only at z10 z11 z12 z13 z14 z15
  clear p1
  go_wp2_with fail
  refine (point_any G (n + 1) ev sv gi go _ S1.out.gt.gs.gr (by omega)).mono ?_
  rintro e w2 ⟨rfl, hw2⟩
  have S2 : Hid (PlSt w w2 ⟨T, gp, cp, gt, ct⟩ ps ss root win G B (n + 2) ev sv gi go es st N1 N2 ev sv w.heap.size ⟨3, nl, right, low, -1, step⟩) := S1.out.point hw2
  clear hw2
  clear z10 z11 z12 z13 z14 z15
  have p2 := S2.out.pc
  have z20 := p2.c0
  have z21 := p2.c1
  have z22 := p2.c2
  have z23 := p2.c3
  have z24 := p2.c4
  have z25 := p2.c5
  simp only at z20 z21 z22 z23 z24 z25
  clear p2
  go_wp2_with fail
  refine (freeT_any G B (n + 2) ev sv gi go es st N1 N2 fr (n : Int) w2 S2.out.gt (by omega) (by have := HF.out; omega) (by omega) S2.out.s1 S2.out.s2).mono ?_
  intro e w3 hP
  obtain ⟨he, n3, ev3, sv3, es3, st3, s3, b1, b2, b3, b4⟩ := S2.out.at hP
  subst he
  have S3 : Hid (PlSt w w3 ⟨T, gp, cp, gt, ct⟩ ps ss root win G B n3 ev3 sv3 gi go es3 st3 N1 N2 ev sv w.heap.size ⟨3, nl, right, low, -1, step⟩) := s3
  have q31 := b1
  have q32 := b2
  have q33 := b3
  have q34 := b4
  have p3 := S3.out.pc
  have z30 := p3.c0
  have z31 := p3.c1
  have z32 := p3.c2
  have z33 := p3.c3
  have z34 := p3.c4
  have z35 := p3.c5
  simp only at z30 z31 z32 z33 z34 z35
  clear hP s3 b1 b2 b3 b4 p3
  clear z20 z21 z22 z23 z24 z25
  go_wp2_with fail
  refine (freeT_any G B n3 ev3 sv3 gi go es3 st3 N1 N2 ((n + 1 : Nat) : Int) tq w3 S3.out.gt (by omega) (by omega) (by have := HT.out; omega) S3.out.s1 S3.out.s2).mono ?_
  intro e w4 hP
  obtain ⟨he, n4, ev4, sv4, es4, st4, s4, b1, b2, b3, b4⟩ := S3.out.at hP
  subst he
  have S4 : Hid (PlSt w w4 ⟨T, gp, cp, gt, ct⟩ ps ss root win G B n4 ev4 sv4 gi go es4 st4 N1 N2 ev sv w.heap.size ⟨3, nl, right, low, -1, step⟩) := s4
  have q41 := b1
  have q42 := b2
  have q43 := b3
  have q44 := b4
  have p4 := S4.out.pc
  have z40 := p4.c0
  have z41 := p4.c1
  have z42 := p4.c2
  have z43 := p4.c3
  have z44 := p4.c4
  have z45 := p4.c5
  simp only at z40 z41 z42 z43 z44 z45
  clear hP s4 b1 b2 b3 b4 p4
  clear z30 z31 z32 z33 z34 z35
  go_wp2_with fail
  refine (round_any G B n4 ev4 sv4 gi go es4 st4 N1 N2 (n : Int) ((n + 1 : Nat) : Int) ⟨3, nl, right, low, -1, step⟩ w4 S4.out.gt (by omega) (by omega) (by omega) S4.out.s1 S4.out.s2).mono ?_
  intro e w5 hP
  obtain ⟨he, n5, ev5, sv5, es5, st5, s5, b1, b2, b3, b4⟩ := S4.out.at hP
  subst he
  have S5 : Hid (PlSt w w5 ⟨T, gp, cp, gt, ct⟩ ps ss root win G B n5 ev5 sv5 gi go es5 st5 N1 N2 ev sv w.heap.size ⟨3, nl, right, low, -1, step⟩) := s5
  have q51 := b1
  have q52 := b2
  have q53 := b3
  have q54 := b4
  have p5 := S5.out.pc
  have z50 := p5.c0
  have z51 := p5.c1
  have z52 := p5.c2
  have z53 := p5.c3
  have z54 := p5.c4
  have z55 := p5.c5
  simp only at z50 z51 z52 z53 z54 z55
  clear hP s5 b1 b2 b3 b4 p5
  clear z40 z41 z42 z43 z44 z45
  go_wp2_with fail
  refine (HI.out n5 ev5 sv5 es5 st5 (n : Int) ((n + 1 : Nat) : Int) w5 S5.out.tr S5.out.gt S5.out.s1 S5.out.s2 (by omega) (by omega) (by omega) (by omega) (by omega)).mono ?_
  intro e w6 hP
  obtain ⟨he, n6, ev6, sv6, es6, st6, s6, b1, b2, b3, b4⟩ := S5.out.at hP
  subst he
  have S6 : Hid (PlSt w w6 ⟨T, gp, cp, gt, ct⟩ ps ss root win G B n6 ev6 sv6 gi go es6 st6 N1 N2 ev sv w.heap.size ⟨3, nl, right, low, -1, step⟩) := s6
  have q61 := b1
  have q62 := b2
  have q63 := b3
  have q64 := b4
  have p6 := S6.out.pc
  have z60 := p6.c0
  have z61 := p6.c1
  have z62 := p6.c2
  have z63 := p6.c3
  have z64 := p6.c4
  have z65 := p6.c5
  simp only at z60 z61 z62 z63 z64 z65
  clear hP s6 b1 b2 b3 b4 p6
  clear z50 z51 z52 z53 z54 z55
  go_wp2
  go_end0
  exact S6.out.post (by omega) (by omega) (by omega) (by omega)
set_option maxRecDepth 100000 in
set_option maxHeartbeats 4000000 in
theorem spreadRounds (Q : TP) (ps : List Pt) (ss : List (St × Value)) (root win : Int) (G B n : Nat) (ev sv : Value) (gi go : Int) (es : List Ed) (st : List Int) (N1 N2 : Nat) (fr tq : Int) (i nl N LN h' : Nat) (right low step : Int) (w : World) (ha : Apart Q G B)
    (ht : TreeR w Q ps ss root win) (h : GT w G B n ev sv gi go es st) (hx : ps[i]? = some ⟨3, nl, right, low, h', step⟩) (s1 : ∀ y ∈ es, y.st < N1) (s2 : ∀ y ∈ st, 0 ≤ y ∧ y < N2) (hf : 0 ≤ fr ∧ fr < n) (hto : 0 ≤ tq ∧ tq < n) (hh : h' ≤ 9) (hn : n + (h' * (N + 2) + 1) ≤ 100000) (he : es.length + (h' * (N + 2) + 1) ≤ 100000) (hs : st.length + h' * LN ≤ 100000)
    (hI : PlainOk 145 Q ps ss root win G B gi go N1 N2 nl N LN) :
    Calls Tryz.prog 145 #[.pointer (some ⟨G, 0, none⟩), .pointer (some ⟨Q.T, 0, none⟩), .int .i64 i, .int .i64 fr, .int .i64 tq] w (GPost G B gi go N1 N2 n ev sv es.length st.length (h' * (N + 2) + 1) (h' * (N + 2) + 1) (h' * LN) w) := by
  have hil := (List.getElem?_eq_some_iff.1 hx).1
  obtain ⟨d0, d1, d2, d3, d4, d5⟩ := ht.part i _ hx
  have c0 := ht.c0
  have hT := ht.ltT
  have hp := ht.ltp
  have hnp := ht.np
  have hl := h.gs.gr.lt
  have S0 : Hid (PlSt w _ Q ps ss root win G B n ev sv gi go es st N1 N2 ev sv w.heap.size ⟨3, nl, right, low, h', step⟩) := PlSt.new ⟨3, nl, right, low, h', step⟩ ht h s1 s2 ha
  obtain ⟨T, gp, cp, gt, ct⟩ := Q
  simp only at c0 hT hp d0 d1 d2 d3 d4 d5
  have hn1 : ¬ T = w.heap.size := by omega
  have hn2 : ¬ gp = w.heap.size := by omega
  have hn3 : ¬ G = w.heap.size := by omega
  have hn4 : ¬ w.heap.size = G := by omega
  have HI : Hid (PlainOk 145 ⟨T, gp, cp, gt, ct⟩ ps ss root win G B gi go N1 N2 nl N LN) := hI
  have HF : Hid (0 ≤ fr ∧ fr < n) := hf
  have HT : Hid (0 ≤ tq ∧ tq < n) := hto
  have hm1 : ((h' : Int) == -1) = false := by first | (simp; done) | (simp; omega)
  have HTot : Hid (n + (h' * (N + 2) + 1) ≤ 100000 ∧ es.length + (h' * (N + 2) + 1) ≤ 100000 ∧ st.length + h' * LN ≤ 100000) := ⟨hn, he, hs⟩
  clear ht h hx s1 s2 hI hf hto hn he hs
  go_enter Tryz.func145, Tryz.ntmps145
  go_wp2
  go_loopg [14, 15] h' (fun m v14 v15 wr => ∃ (j : Nat) (at' : Int) (n5 : Nat) (ev5 sv5 : Value) (es5 : List Ed) (st5 : List Int), v14 = .int .i64 at' ∧ v15 = .int .i64 j ∧ m = h' - j ∧ j ≤ h' ∧ PlSt w wr ⟨T, gp, cp, gt, ct⟩ ps ss root win G B n5 ev5 sv5 gi go es5 st5 N1 N2 ev sv w.heap.size ⟨3, nl, right, low, h', step⟩ ∧ (0 ≤ at' ∧ at' < n5) ∧ n ≤ n5 ∧ n5 ≤ n + j * (N + 2) ∧ es5.length ≤ es.length + j * (N + 2) ∧ st5.length ≤ st.length + j * LN)
  case atStart => exact ⟨0, fr, n, ev, sv, es, st, rfl, rfl, rfl, by omega, S0.out, HF.out, Nat.le_refl _, by omega, by omega, by omega⟩
  case round =>
    obtain ⟨j, at', n5, ev5, sv5, es5, st5, rfl, rfl, hm, hj, hS, hat, hb1, hb2, hb3, hb4⟩ := hrel
    have S5 : Hid (PlSt w wr ⟨T, gp, cp, gt, ct⟩ ps ss root win G B n5 ev5 sv5 gi go es5 st5 N1 N2 ev sv w.heap.size ⟨3, nl, right, low, h', step⟩) := hS
    have HAT : Hid (0 ≤ at' ∧ at' < n5) := hat
    have HJ1 : Hid ((j + 1) * (N + 2) = j * (N + 2) + (N + 2)) := Nat.succ_mul j (N + 2)
    have HJ2 : Hid ((j + 1) * LN = j * LN + LN) := Nat.succ_mul j LN
    have p5 := S5.out.pc
    have z50 := p5.c0
    have z51 := p5.c1
    have z52 := p5.c2
    have z53 := p5.c3
    have z54 := p5.c4
    have z55 := p5.c5
    simp only at z50 z51 z52 z53 z54 z55
    clear hS hat p5 c0 d0 d1 d2 d3 d4 d5 S0
    by_cases hjh : j < h'
    · have e1 : (j + 1) * (N + 2) ≤ h' * (N + 2) := Nat.mul_le_mul_right _ hjh
      have e2 : (j + 1) * LN ≤ h' * LN := Nat.mul_le_mul_right _ hjh
      have HBn : Hid (n ≤ n5 ∧ n5 ≤ n + j * (N + 2) ∧ es5.length ≤ es.length + j * (N + 2) ∧ st5.length ≤ st.length + j * LN ∧ n5 + (N + 2) ≤ 100000 ∧ es5.length + (N + 2) ≤ 100000 ∧ st5.length + LN ≤ 100000) := by
        have h1 := HTot.out
        have h2 := HJ1.out
        have h3 := HJ2.out
        refine ⟨hb1, hb2, hb3, hb4, ?_, ?_, ?_⟩ <;> omega
      clear e1 e2 hb1 hb2 hb3 hb4
      by_cases hlw : low ≤ j
      · go_wp2_with fail
        refine (freeT_any G B n5 ev5 sv5 gi go es5 st5 N1 N2 at' tq wr S5.out.gt (by have := HBn.out; omega) HAT.out (by have := HT.out; have := HBn.out; omega) S5.out.s1 S5.out.s2).mono ?_
        intro e w6 hP
        obtain ⟨he, n6, ev6, sv6, es6, st6, s6, b1, b2, b3, b4⟩ := S5.out.at hP
        subst he
        have S6 : Hid (PlSt w w6 ⟨T, gp, cp, gt, ct⟩ ps ss root win G B n6 ev6 sv6 gi go es6 st6 N1 N2 ev sv w.heap.size ⟨3, nl, right, low, h', step⟩) := s6
        have q61 := b1
        have q62 := b2
        have q63 := b3
        have q64 := b4
        have p6 := S6.out.pc
        have z60 := p6.c0
        have z61 := p6.c1
        have z62 := p6.c2
        have z63 := p6.c3
        have z64 := p6.c4
        have z65 := p6.c5
        simp only at z60 z61 z62 z63 z64 z65
        clear hP s6 b1 b2 b3 b4 p6
        have HBn0 := HBn.out
        have HAT0 := HAT.out
        have HBm : Hid (n ≤ n6 ∧ n6 ≤ n + j * (N + 2) ∧ es6.length ≤ es.length + j * (N + 2) + 1 ∧ st6.length ≤ st.length + j * LN ∧ n6 + (N + 2) ≤ 100000 ∧ es6.length + (N + 1) ≤ 100000 ∧ st6.length + LN ≤ 100000) := by
          refine ⟨?_, ?_, ?_, ?_, ?_, ?_, ?_⟩ <;> omega
        have HAm : Hid (0 ≤ at' ∧ at' < n6) := by show _ ∧ _; omega
        clear HBn HAT HBn0 HAT0 q61 q62 q63 q64
        clear z50 z51 z52 z53 z54 z55
        go_wp2_with fail
        refine (point_any G n6 ev6 sv6 gi go _ S6.out.gt.gs.gr (by have := HBm.out; omega)).mono ?_
        rintro e w7 ⟨rfl, hw7⟩
        have S7 : Hid (PlSt w w7 ⟨T, gp, cp, gt, ct⟩ ps ss root win G B (n6 + 1) ev6 sv6 gi go es6 st6 N1 N2 ev sv w.heap.size ⟨3, nl, right, low, h', step⟩) := S6.out.point hw7
        clear hw7
        clear z60 z61 z62 z63 z64 z65
        have p7 := S7.out.pc
        have z70 := p7.c0
        have z71 := p7.c1
        have z72 := p7.c2
        have z73 := p7.c3
        have z74 := p7.c4
        have z75 := p7.c5
        simp only at z70 z71 z72 z73 z74 z75
        clear p7
        go_wp2_with fail
        refine (HI.out (n6 + 1) ev6 sv6 es6 st6 at' (n6 : Int) w7 S7.out.tr S7.out.gt S7.out.s1 S7.out.s2 (by have := HAm.out; omega) (by omega) (by have := HBm.out; omega) (by have := HBm.out; omega) (by have := HBm.out; omega)).mono ?_
        intro e w8 hP
        obtain ⟨he, n8, ev8, sv8, es8, st8, s8, b1, b2, b3, b4⟩ := S7.out.at hP
        subst he
        have S8 : Hid (PlSt w w8 ⟨T, gp, cp, gt, ct⟩ ps ss root win G B n8 ev8 sv8 gi go es8 st8 N1 N2 ev sv w.heap.size ⟨3, nl, right, low, h', step⟩) := s8
        have q81 := b1
        have q82 := b2
        have q83 := b3
        have q84 := b4
        have p8 := S8.out.pc
        have z80 := p8.c0
        have z81 := p8.c1
        have z82 := p8.c2
        have z83 := p8.c3
        have z84 := p8.c4
        have z85 := p8.c5
        simp only at z80 z81 z82 z83 z84 z85
        clear hP s8 b1 b2 b3 b4 p8
        clear z70 z71 z72 z73 z74 z75
        go_wp2
        go_roundg (h' - (j + 1))
        case measure => omega
        case rel =>
          have h1 := HBm.out
          have h2 := HJ1.out
          have h3 := HJ2.out
          exact ⟨j + 1, (n6 : Int), n8, ev8, sv8, es8, st8, rfl, by simp, by omega, by omega, S8.out, by omega, by omega, by omega, by omega, by omega⟩
      · have hlw' : decide (low ≤ (j : Int)) = false := by simp; omega
        go_wp2_with fail
        refine (point_any G n5 ev5 sv5 gi go _ S5.out.gt.gs.gr (by have := HBn.out; omega)).mono ?_
        rintro e w7 ⟨rfl, hw7⟩
        have S7 : Hid (PlSt w w7 ⟨T, gp, cp, gt, ct⟩ ps ss root win G B (n5 + 1) ev5 sv5 gi go es5 st5 N1 N2 ev sv w.heap.size ⟨3, nl, right, low, h', step⟩) := S5.out.point hw7
        clear hw7
        clear z50 z51 z52 z53 z54 z55
        have p7 := S7.out.pc
        have z70 := p7.c0
        have z71 := p7.c1
        have z72 := p7.c2
        have z73 := p7.c3
        have z74 := p7.c4
        have z75 := p7.c5
        simp only at z70 z71 z72 z73 z74 z75
        clear p7
        go_wp2_with fail
        refine (HI.out (n5 + 1) ev5 sv5 es5 st5 at' (n5 : Int) w7 S7.out.tr S7.out.gt S7.out.s1 S7.out.s2 (by have := HAT.out; omega) (by omega) (by have := HBn.out; omega) (by have := HBn.out; omega) (by have := HBn.out; omega)).mono ?_
        intro e w8 hP
        obtain ⟨he, n8, ev8, sv8, es8, st8, s8, b1, b2, b3, b4⟩ := S7.out.at hP
        subst he
        have S8 : Hid (PlSt w w8 ⟨T, gp, cp, gt, ct⟩ ps ss root win G B n8 ev8 sv8 gi go es8 st8 N1 N2 ev sv w.heap.size ⟨3, nl, right, low, h', step⟩) := s8
        have q81 := b1
        have q82 := b2
        have q83 := b3
        have q84 := b4
        have p8 := S8.out.pc
        have z80 := p8.c0
        have z81 := p8.c1
        have z82 := p8.c2
        have z83 := p8.c3
        have z84 := p8.c4
        have z85 := p8.c5
        simp only at z80 z81 z82 z83 z84 z85
        clear hP s8 b1 b2 b3 b4 p8
        clear z70 z71 z72 z73 z74 z75
        go_wp2
        go_roundg (h' - (j + 1))
        case measure => omega
        case rel =>
          have h1 := HBn.out
          have h2 := HJ1.out
          have h3 := HJ2.out
          exact ⟨j + 1, (n5 : Int), n8, ev8, sv8, es8, st8, rfl, by simp, by omega, by omega, S8.out, by omega, by omega, by omega, by omega, by omega⟩
    · have ej : j = h' := by omega
      have HBn : Hid (n ≤ n5 ∧ n5 ≤ n + h' * (N + 2) ∧ es5.length ≤ es.length + h' * (N + 2) ∧ st5.length ≤ st.length + h' * LN) := by rw [← ej]; exact ⟨hb1, hb2, hb3, hb4⟩
      have HJH : Hid (j = h') := ej
      clear ej hb1 hb2 hb3 hb4
      go_wp2_with fail
      refine (freeT_any G B n5 ev5 sv5 gi go es5 st5 N1 N2 at' tq wr S5.out.gt (by have := HBn.out; have := HTot.out; omega) HAT.out (by have := HT.out; have := HBn.out; omega) S5.out.s1 S5.out.s2).mono ?_
      intro e w6 hP
      obtain ⟨he, n6, ev6, sv6, es6, st6, s6, b1, b2, b3, b4⟩ := S5.out.at hP
      subst he
      have S6 : Hid (PlSt w w6 ⟨T, gp, cp, gt, ct⟩ ps ss root win G B n6 ev6 sv6 gi go es6 st6 N1 N2 ev sv w.heap.size ⟨3, nl, right, low, h', step⟩) := s6
      have q61 := b1
      have q62 := b2
      have q63 := b3
      have q64 := b4
      have p6 := S6.out.pc
      have z60 := p6.c0
      have z61 := p6.c1
      have z62 := p6.c2
      have z63 := p6.c3
      have z64 := p6.c4
      have z65 := p6.c5
      simp only at z60 z61 z62 z63 z64 z65
      clear hP s6 b1 b2 b3 b4 p6
      clear z50 z51 z52 z53 z54 z55
      go_wp2
      go_end0
      exact S6.out.post (by have := HBn.out; omega) (by have := HBn.out; omega) (by have := HBn.out; omega) (by have := HBn.out; omega)
/-- How many places part i has, written out. -/
def lp (ps : List Pt) : Nat → Nat → Nat
  | 0, _ => 0
  | f + 1, i =>
    match ps[i]? with
    | none => 0
    | some x =>
      if x.op = 0 then 1 else
      if x.op = 3 then (if x.high = -1 then lp ps f x.left.toNat else x.high.toNat * lp ps f x.left.toNat)
      else lp ps f x.left.toNat + lp ps f x.right.toNat
theorem lp_lg {ps : List Pt} {ns : Nat} (h : WfP ps ns) : ∀ f i, (lp ps f i : Int) = lg ps f i := by
  intro f
  induction f with
  | zero => intro i; simp [lp, lg]
  | succ f ih =>
    intro i
    by_cases hl : i < ps.length
    · have hx : ps[i]? = some ps[i] := List.getElem?_eq_getElem hl
      generalize ps[i] = x at hx
      simp only [lp, lg, hx]
      rcases h i x hx with ⟨q1, _⟩ | ⟨q1, q2, q3, q4, q5, q6⟩ | ⟨q1, q2, q3, q4, q5⟩
      · rw [if_pos q1, if_pos q1]; rfl
      · have h0 : ¬ x.op = 0 := by omega
        rw [if_neg h0, if_pos q1, if_neg h0, if_pos q1]
        rcases q6 with e | ⟨e1, e2⟩
        · rw [if_pos e, if_pos e]; exact ih _
        · have e3 : ¬ x.high = -1 := by omega
          rw [if_neg e3, if_neg e3, Int.natCast_mul, ih, Int.toNat_of_nonneg (by omega), Int.mul_comm]
      · have h0 : ¬ x.op = 0 := by omega
        have h3 : ¬ x.op = 3 := by omega
        rw [if_neg h0, if_neg h3, if_neg h0, if_neg h3, Int.natCast_add, ih, ih]
    · have hx : ps[i]? = none := List.getElem?_eq_none (by omega)
      simp only [lp, lg, hx]
      rfl
theorem spread_any (Q : TP) (ps : List Pt) (ss : List (St × Value)) (root win : Int) (G B : Nat) (gi go : Int) (N1 N2 : Nat) (hwf : WfP ps N2) (ha : Apart Q G B) (hN1 : 100000 ≤ N1) : ∀ (f i : Nat), i < f → i < ps.length → PlainOk 145 Q ps ss root win G B gi go N1 N2 i (bg ps f i) (lp ps f i) := by
  intro f
  induction f with
  | zero => intro i hi; omega
  | succ f ih =>
    intro i hi hil n ev sv es st fr tq w ht h s1 s2 hf hto hn1 hn2 hn3
    obtain ⟨x, hx⟩ : ∃ x, ps[i]? = some x := ⟨ps[i], by simp [hil]⟩
    have hw := hwf i x hx
    have hbg : bg ps (f + 1) i = (if x.op = 0 then 1 else if x.op = 3 then (if x.high = -1 then bg ps f x.left.toNat + 5 else x.high.toNat * (bg ps f x.left.toNat + 2) + 1) else bg ps f x.left.toNat + bg ps f x.right.toNat + 1) := by simp only [bg, hx]
    have hlp : lp ps (f + 1) i = (if x.op = 0 then 1 else if x.op = 3 then (if x.high = -1 then lp ps f x.left.toNat else x.high.toNat * lp ps f x.left.toNat) else lp ps f x.left.toNat + lp ps f x.right.toNat) := by simp only [lp, hx]
    rw [hbg] at hn1 hn2 ⊢
    rw [hlp] at hn3 ⊢
    obtain ⟨op, left, right, low, high, step⟩ := x
    simp only at hw hn1 hn2 hn3 ⊢
    rcases hw with ⟨rfl, q0, q1⟩ | ⟨rfl, l0, l1, _, _, hh⟩ | ⟨hop, l0, l1, r0, r1⟩
    · exact spreadOne Q ps ss root win G B n ev sv gi go es st N1 N2 fr tq i left right low high step w ha ht h hx s1 s2 hf hto hn2 hn3 ⟨q0, q1⟩ hN1
    · obtain ⟨nl, rfl⟩ : ∃ nl : Nat, left = nl := ⟨left.toNat, by omega⟩
      rcases hh with rfl | ⟨h1, h2⟩
      · exact spreadMany Q ps ss root win G B n ev sv gi go es st N1 N2 fr tq i nl (bg ps f nl) (lp ps f nl) right low step w ha ht h hx s1 s2 hf hto hn1 hn2 hn3 (ih nl (by omega) (by omega))
      · obtain ⟨h', rfl⟩ : ∃ h' : Nat, high = h' := ⟨high.toNat, by omega⟩
        have e3 : ¬ (h' : Int) = -1 := by omega
        simp only [Int.toNat_natCast] at hn1 hn2 hn3 ⊢
        simp only [if_neg e3] at hn1 hn2 hn3 ⊢
        exact spreadRounds Q ps ss root win G B n ev sv gi go es st N1 N2 fr tq i nl (bg ps f nl) (lp ps f nl) h' right low step w ha ht h hx s1 s2 hf hto (by omega) hn1 hn2 hn3 (ih nl (by omega) (by omega))
    · obtain ⟨nl, rfl⟩ : ∃ nl : Nat, left = nl := ⟨left.toNat, by omega⟩
      obtain ⟨nr, rfl⟩ : ∃ nr : Nat, right = nr := ⟨right.toNat, by omega⟩
      rcases hop with rfl | rfl
      · exact spreadTwo1 Q ps ss root win G B n ev sv gi go es st N1 N2 fr tq i nl nr (bg ps f nl) (bg ps f nr) (lp ps f nl) (lp ps f nr) low high step w ha ht h hx s1 s2 hf hto hn1 hn2 hn3 (ih nl (by omega) (by omega)) (ih nr (by omega) (by omega))
      · exact spreadTwo2 Q ps ss root win G B n ev sv gi go es st N1 N2 fr tq i nl nr (bg ps f nl) (bg ps f nr) (lp ps f nl) (lp ps f nr) low high step w ha ht h hx s1 s2 hf hto hn1 hn2 hn3 (ih nl (by omega) (by omega)) (ih nr (by omega) (by omega))
end Go.Proofs.YtcboiapggnmpfaaGreat
