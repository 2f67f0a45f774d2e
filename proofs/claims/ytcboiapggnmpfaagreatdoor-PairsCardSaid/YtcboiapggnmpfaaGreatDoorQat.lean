import Derived.Test.YtcboiapggnmpfaaGreatDoorQas
namespace Go.Proofs.YtcboiapggnmpfaaGreatDoor
set_option maxRecDepth 100000
set_option maxHeartbeats 2000000
set_option linter.unusedSimpArgs false
set_option linter.unusedVariables false
open Go.RowKit
theorem NewB.not {w:World} {v v':Value} {B:Nat} (h:NewB w v v') (hv:¬v.ownBlock=some B) (hB:B<w.heap.size):¬v'.ownBlock=some B:=by
 intro e
 rcases h B e with h1|h1
 ·exact hv h1
 ·omega
theorem nWS {R B:Nat} {sv fv:Value} (hR:¬B=R) (h1:¬sv.ownBlock=some B) (h2:¬fv.ownBlock=some B):¬WSp R sv fv B:=by
 rintro (e|e|e)
 ·exact hR e
 ·exact h1 e
 ·exact h2 e
theorem WrPost.alloc {w w':World} {R:Nat} {nv sv fv:Value} {p:Pp} {S F:List Nat} {e:Ending} (h:WrPost w R nv sv fv p S F e w') (o:Obj):WrPost w R nv sv fv p S F e (w'.alloc o):=by
 obtain ⟨sv',fv',h1,h2,h3,h4,h5⟩:=h
 exact ⟨sv',fv',h1,h2.nw ((Kp.refl _ _).alloc o),h3.alloc o,h4,h5⟩
structure Two (w w2:World) (R:Nat) (nv sv fv sv2 fv2:Value) (M:List Nd) (W2:WSt) (B2:Nat) (pa pb:Pp):Prop where
 wn:WrN w2 R nv sv2 fv2 M W2
 kp:Kp (WSp R sv fv) w w2
 n1:NewB w sv sv2
 n2:NewB w fv fv2
 f1:¬sv2.ownBlock=some w.heap.size
 f2:¬fv2.ownBlock=some w.heap.size
 g1:¬sv2.ownBlock=some B2
 g2:¬fv2.ownBlock=some B2
 p0:PtAt w2 w.heap.size ⟨0,0,false⟩
 p2:PtAt w2 B2 pa
 lt:w.heap.size<B2
theorem write_two (M : List Nd) (gn cn i k jl jr : Nat) (op : Int) (hop : op = 1 ∨ op = 2) (l r : Nt) (hi : M[i]? = some ⟨op, 0, jl, jr, 0, 0⟩) (hM : M.length ≤ 10000) (hl : WriteOk M (.slice (some ⟨gn, 0, none⟩) M.length cn) l jl k) (hr : WriteOk M (.slice (some ⟨gn, 0, none⟩) M.length cn) r jr (k + l.steps.length)) : WriteOk M (.slice (some ⟨gn, 0, none⟩) M.length cn) (.two op l r) i k := by
  intro R sv fv W n w h hW hn
  have hil := (List.getElem?_eq_some_iff.1 hi).1
  have H : Hid (WrN w R (.slice (some ⟨gn, 0, none⟩) M.length cn) sv fv M W) := h
  obtain ⟨m0, m1, m2, m3, m4, m5⟩ := h.node hi
  have c0 := h.wr.c0
  have hlt := h.wr.lt
  have hgl := h.nd.lt gn rfl
  have hsl := h.wr.so.lt
  have hfl := h.wr.fo.lt
  have HSB : Hid (∀ b, w.heap.size ≤ b → ¬ sv.ownBlock = some b) := fun b hb e => by have := (hsl b e).2; omega
  have HFB : Hid (∀ b, w.heap.size ≤ b → ¬ fv.ownBlock = some b) := fun b hb e => by have := (hfl b e).2; omega
  simp only [Nt.lenN] at hn
  have hW1 := (wrS_ok l k).more W n hW
  have hW2 := (wrS_ok r (k + l.steps.length)).more _ _ hW1
  have hpa := (wrS_ok l k).part W n hW
  have hpb := (wrS_ok r (k + l.steps.length)).part _ _ hW1
  have HCL : Hid (∀ W', Nw w W' → Calls Tryz.prog 70 #[.pointer (some ⟨R, 0, none⟩), .int .i64 jl] W' (WrPost W' R (.slice (some ⟨gn, 0, none⟩) M.length cn) sv fv (wrS l k W).1 (wrS l k W).2.1 (wrS l k W).2.2)) := fun W' kW => hl R sv fv W n W' (h.nw kW) hW (by omega)
  have HCR : Hid (∀ sv1 fv1 W', WrN W' R (.slice (some ⟨gn, 0, none⟩) M.length cn) sv1 fv1 M (wrS l k W).2 → Calls Tryz.prog 70 #[.pointer (some ⟨R, 0, none⟩), .int .i64 jr] W' (WrPost W' R (.slice (some ⟨gn, 0, none⟩) M.length cn) sv1 fv1 (wrS r (k + l.steps.length) (wrS l k W).2).1 (wrS r (k + l.steps.length) (wrS l k W).2).2.1 (wrS r (k + l.steps.length) (wrS l k W).2).2.2)) := fun sv1 fv1 W' hN => hr R sv1 fv1 _ _ W' hN hW1 (by omega)
  have hres : wrS (.two op l r) k W = (if op = 1 then (joinS (wrS l k W).1 (wrS r (k + l.steps.length) (wrS l k W).2).1, ((wrS r (k + l.steps.length) (wrS l k W).2).2.1, followS (wrS r (k + l.steps.length) (wrS l k W).2).2.2 (wrS l k W).1.last (wrS r (k + l.steps.length) (wrS l k W).2).1.first)) else (eitherS (wrS l k W).1 (wrS r (k + l.steps.length) (wrS l k W).2).1, (wrS r (k + l.steps.length) (wrS l k W).2).2)) := rfl
  rw [hres]
  clear hres
  generalize (wrS r (k + l.steps.length) (wrS l k W).2).1 = pb at *
  generalize (wrS r (k + l.steps.length) (wrS l k W).2).2 = W2 at *
  generalize (wrS l k W).1 = pa at *
  generalize (wrS l k W).2 = W1 at *
  have n0 : ¬ R = w.heap.size := by omega
  have n1 : ¬ gn = w.heap.size := by omega
  have HPA : Hid (pa.ok) := hpa
  have HPB : Hid (pb.ok) := hpb
  have hW2f := hW2.f
  have HW2S : Hid (Sets W2.2) := hW2.sets
  clear h hsl hfl hW hl hr hW1 hpa hpb hW2
  simp only at m0 m1 m2 m3 m4 m5
  have hopn : ¬ op = 0 := by omega
  have ho0 : (op == 0) = false := by simp [hopn]
  rcases hop with rfl | rfl
  · first | rw [if_pos rfl] | rw [if_neg (by decide)]
    go_enter Tryz.func70, Tryz.ntmps70
    go_wp2_with fail
    refine (HCL.out _ (((Kp.refl _ w).alloc _).alloc _)).mono ?_
    rintro e w1 ⟨sv1, fv1, rfl, hm1, k1, b1, b2⟩
    have hs2 := two_lt w
    have kw1 : Kp (WSp R sv fv) w w1 := (((Kp.refl _ w).alloc _).alloc _).trans k1
    have P1 : PtAt w1 w.heap.size ⟨0, 0, false⟩ := by
      have p0 := PtAt.new w ⟨0, 0, false⟩ 159 (B := w.heap.size) rfl
      exact (p0.kp ((Kp.refl (fun _ => False) _).alloc _) (fun h => h)).kp k1 (nWS (fun e => n0 e.symm) (HSB.out _ (Nat.le_refl _)) (HFB.out _ (Nat.le_refl _)))
    have f1 : ¬ sv1.ownBlock = some w.heap.size := b1.not (HSB.out _ (Nat.le_refl _)) (two_lt _ _ _)
    have f2 : ¬ fv1.ownBlock = some w.heap.size := b2.not (HFB.out _ (Nat.le_refl _)) (two_lt _ _ _)
    have x3 : w1.cell? ⟨w.heap.size + 1, 3, none⟩ = some (.int .i64 jr) := by
      rw [k1.cell (p := ⟨w.heap.size + 1, 3, none⟩) (by show w.heap.size + 1 < _; simp) (nWS (by show ¬ w.heap.size + 1 = R; omega) (HSB.out _ (by show w.heap.size ≤ w.heap.size + 1; omega)) (HFB.out _ (by show w.heap.size ≤ w.heap.size + 1; omega)))]
      simp [go_sem, World.cell?_alloc_at]
    have hN1 : WrN w1 R (.slice (some ⟨gn, 0, none⟩) M.length cn) sv1 fv1 M W1 := H.out.next kw1 hm1
    have hl1 : w.heap.size + 1 < w1.heap.size := by have := k1.size; simp at this; omega
    have bb1 : NewB w sv sv1 := b1.of (Nat.le_of_lt (two_lt _ _ _))
    have bb2 : NewB w fv fv1 := b2.of (Nat.le_of_lt (two_lt _ _ _))
    have HN1 : Hid (WrN w1 R (.slice (some ⟨gn, 0, none⟩) M.length cn) sv1 fv1 M W1) := hN1
    have HP1 : Hid (PtAt w1 w.heap.size ⟨0, 0, false⟩) := P1
    have HK1 : Hid (Kp (WSp R sv fv) w w1) := kw1
    have HB1 : Hid (NewB w sv sv1) := bb1
    have HB2 : Hid (NewB w fv fv1) := bb2
    have HF1 : Hid (¬ sv1.ownBlock = some w.heap.size) := f1
    have HF2 : Hid (¬ fv1.ownBlock = some w.heap.size) := f2
    clear m0 m1 m2 m3 m4 m5 c0 hm1 k1 b1 b2 hs2 kw1 P1 f1 f2 hN1 bb1 bb2 HCL
    have q0 : ¬ w.heap.size + 1 = w1.heap.size := by omega
    unfold partV
    go_wp2_with fail
    refine (HCR.out sv1 fv1 _ (HN1.out.nw ((Kp.refl _ w1).alloc _))).mono ?_
    rintro e w2 ⟨sv2, fv2, rfl, hm2, k2, b1, b2⟩
    have hs1 := HN1.out.wr.so.lt
    have hs2 := HN1.out.wr.fo.lt
    have hRl := HN1.out.wr.lt
    have z1 : ¬ sv1.ownBlock = some w1.heap.size := by intro e; have := (hs1 _ e).2; omega
    have z2 : ¬ fv1.ownBlock = some w1.heap.size := by intro e; have := (hs2 _ e).2; omega
    have hsz : ∀ ob, w1.heap.size < (w1.alloc ob).heap.size := by intro ob; simp
    have T2 : Two w w2 R (.slice (some ⟨gn, 0, none⟩) M.length cn) sv fv sv2 fv2 M W2 w1.heap.size pa pb := by
      have kk := (HK1.out.alloc (.cells #[.int .i64 pa.first, .int .i64 pa.last, .bool pa.nothing] 159)).trans' k2 (WSp.back (w1 := w1) HB1.out HB2.out)
      refine ⟨(HN1.out.nw ((Kp.refl _ w1).alloc _)).next k2 hm2, kk, HB1.out.trans b1 (by have := HK1.out.size; have := hsz (.cells #[.int .i64 pa.first, .int .i64 pa.last, .bool pa.nothing] 159); omega), HB2.out.trans b2 (by have := HK1.out.size; have := hsz (.cells #[.int .i64 pa.first, .int .i64 pa.last, .bool pa.nothing] 159); omega), ?_, ?_, ?_, ?_, ?_, ?_, by omega⟩
      · exact b1.not HF1.out (by have := hsz (.cells #[.int .i64 pa.first, .int .i64 pa.last, .bool pa.nothing] 159); omega)
      · exact b2.not HF2.out (by have := hsz (.cells #[.int .i64 pa.first, .int .i64 pa.last, .bool pa.nothing] 159); omega)
      · exact b1.not z1 (hsz _)
      · exact b2.not z2 (hsz _)
      · exact (HP1.out.kp ((Kp.refl (fun _ => False) _).alloc _) (fun h => h)).kp k2 (nWS (fun e => n0 e.symm) HF1.out HF2.out)
      · exact (PtAt.new w1 pa 159 (B := w1.heap.size) rfl).kp k2 (nWS (by omega) z1 z2)
    have HT : Hid (Two w w2 R (.slice (some ⟨gn, 0, none⟩) M.length cn) sv fv sv2 fv2 M W2 w1.heap.size pa pb) := T2
    obtain ⟨a0, a1, a2, az⟩ := T2.p2
    have hl2 := T2.p2.lt
    clear hm2 k2 b1 b2 hs1 hs2 z1 z2 hsz T2 x3
    generalize w1.heap.size = B2 at *
    have q1 : ¬ B2 = w2.heap.size := by omega
    have HJ : Hid (∀ W', Nw w2 W' → Calls Tryz.prog 97 #[.pointer (some ⟨R, 0, none⟩), .agg #[.int .i64 pa.first, .int .i64 pa.last, .bool pa.nothing], .agg #[.int .i64 pb.first, .int .i64 pb.last, .bool pb.nothing]] W' fun e w' => e = .returned (partV (joinS pa pb)) ∧ WrM w' R (.slice (some ⟨gn, 0, none⟩) M.length cn) sv2 fv2 W2.1 (followS W2.2 pa.last pb.first) ∧ Kp (fun k => fv2.ownBlock = some k) W' w') := fun W' kW => join_any R pa pb HPA.out HPB.out _ sv2 fv2 W2.1 W2.2 W' (HT.out.wn.wr.nw kW) HW2S.out (by omega)
    have o1 := bits_or25 pa.first pb.first HPA.out.1 HPB.out.1
    have o2 := bits_or25 pa.last pb.last HPA.out.2 HPB.out.2
    have hz2 := HT.out.p0.lt
    have q2 : ¬ w.heap.size = w2.heap.size := by omega
    unfold partV
    first
    | (go_wp2_with fail
       refine (HJ.out _ ((Kp.refl _ w2).alloc _)).mono ?_
       rintro e w3 ⟨rfl, hm3, k3⟩
       have P3 : Hid (PtAt w3 w.heap.size ⟨0, 0, false⟩) := (HT.out.p0.kp ((Kp.refl (fun _ => False) _).alloc _) (fun h => h)).kp k3 HT.out.f2
       have FIN : Hid (WrPost w R (.slice (some ⟨gn, 0, none⟩) M.length cn) sv fv (joinS pa pb) W2.1 (followS W2.2 pa.last pb.first) (.returned (partV (joinS pa pb))) (setP w3 w.heap.size (joinS pa pb))) := wr_fin hlt hm3 ((HT.out.kp.alloc _).trans' k3 (fun b hb e => WSp.back (w1 := w) HT.out.n1 HT.out.n2 b hb (Or.inr (Or.inr e)))) HT.out.n1 HT.out.n2 HT.out.f1 HT.out.f2
       obtain ⟨e0, e1, e2, ez⟩ := P3.out
       clear hm3 k3 a0 a1 a2 az HJ o1 o2
       unfold partV
       go_wp2
       refine bodyPost_ret (results_cX Tryz.results70 _ _ _ ⟨w.heap.size, 0, none⟩ rfl _ (P3.out.set (joinS pa pb)).load) rfl ?_
       exact FIN.out)
    | (have FIN : Hid (∀ o : Obj, WrPost w R (.slice (some ⟨gn, 0, none⟩) M.length cn) sv fv (eitherS pa pb) W2.1 W2.2 (.returned (partV (eitherS pa pb))) ((setP w2 w.heap.size (eitherS pa pb)).alloc o)) := fun o => (wr_fin hlt HT.out.wn.wr HT.out.kp HT.out.n1 HT.out.n2 HT.out.f1 HT.out.f2).alloc o
       have P3 : Hid (∀ o : Obj, PtAt ((setP w2 w.heap.size (eitherS pa pb)).alloc o) w.heap.size (eitherS pa pb)) := fun o => (HT.out.p0.set _).kp ((Kp.refl (fun _ => False) _).alloc _) (fun h => h)
       obtain ⟨e0, e1, e2, ez⟩ := HT.out.p0
       clear HJ
       obtain ⟨af, al, an⟩ := pa
       obtain ⟨bf, bl, bn⟩ := pb
       simp only at a0 a1 a2 o1 o2
       cases an with
       | true =>
         go_wp2
         refine bodyPost_ret (results_cX Tryz.results70 _ _ _ ⟨w.heap.size, 0, none⟩ rfl _ (P3.out _).load) rfl ?_
         exact FIN.out _
       | false =>
         go_wp2
         refine bodyPost_ret (results_cX Tryz.results70 _ _ _ ⟨w.heap.size, 0, none⟩ rfl _ (P3.out _).load) rfl ?_
         exact FIN.out _)
  · first | rw [if_pos rfl] | rw [if_neg (by decide)]
    go_enter Tryz.func70, Tryz.ntmps70
    go_wp2_with fail
    refine (HCL.out _ (((Kp.refl _ w).alloc _).alloc _)).mono ?_
    rintro e w1 ⟨sv1, fv1, rfl, hm1, k1, b1, b2⟩
    have hs2 := two_lt w
    have kw1 : Kp (WSp R sv fv) w w1 := (((Kp.refl _ w).alloc _).alloc _).trans k1
    have P1 : PtAt w1 w.heap.size ⟨0, 0, false⟩ := by
      have p0 := PtAt.new w ⟨0, 0, false⟩ 159 (B := w.heap.size) rfl
      exact (p0.kp ((Kp.refl (fun _ => False) _).alloc _) (fun h => h)).kp k1 (nWS (fun e => n0 e.symm) (HSB.out _ (Nat.le_refl _)) (HFB.out _ (Nat.le_refl _)))
    have f1 : ¬ sv1.ownBlock = some w.heap.size := b1.not (HSB.out _ (Nat.le_refl _)) (two_lt _ _ _)
    have f2 : ¬ fv1.ownBlock = some w.heap.size := b2.not (HFB.out _ (Nat.le_refl _)) (two_lt _ _ _)
    have x3 : w1.cell? ⟨w.heap.size + 1, 3, none⟩ = some (.int .i64 jr) := by
      rw [k1.cell (p := ⟨w.heap.size + 1, 3, none⟩) (by show w.heap.size + 1 < _; simp) (nWS (by show ¬ w.heap.size + 1 = R; omega) (HSB.out _ (by show w.heap.size ≤ w.heap.size + 1; omega)) (HFB.out _ (by show w.heap.size ≤ w.heap.size + 1; omega)))]
      simp [go_sem, World.cell?_alloc_at]
    have hN1 : WrN w1 R (.slice (some ⟨gn, 0, none⟩) M.length cn) sv1 fv1 M W1 := H.out.next kw1 hm1
    have hl1 : w.heap.size + 1 < w1.heap.size := by have := k1.size; simp at this; omega
    have bb1 : NewB w sv sv1 := b1.of (Nat.le_of_lt (two_lt _ _ _))
    have bb2 : NewB w fv fv1 := b2.of (Nat.le_of_lt (two_lt _ _ _))
    have HN1 : Hid (WrN w1 R (.slice (some ⟨gn, 0, none⟩) M.length cn) sv1 fv1 M W1) := hN1
    have HP1 : Hid (PtAt w1 w.heap.size ⟨0, 0, false⟩) := P1
    have HK1 : Hid (Kp (WSp R sv fv) w w1) := kw1
    have HB1 : Hid (NewB w sv sv1) := bb1
    have HB2 : Hid (NewB w fv fv1) := bb2
    have HF1 : Hid (¬ sv1.ownBlock = some w.heap.size) := f1
    have HF2 : Hid (¬ fv1.ownBlock = some w.heap.size) := f2
    clear m0 m1 m2 m3 m4 m5 c0 hm1 k1 b1 b2 hs2 kw1 P1 f1 f2 hN1 bb1 bb2 HCL
    have q0 : ¬ w.heap.size + 1 = w1.heap.size := by omega
    unfold partV
    go_wp2_with fail
    refine (HCR.out sv1 fv1 _ (HN1.out.nw ((Kp.refl _ w1).alloc _))).mono ?_
    rintro e w2 ⟨sv2, fv2, rfl, hm2, k2, b1, b2⟩
    have hs1 := HN1.out.wr.so.lt
    have hs2 := HN1.out.wr.fo.lt
    have hRl := HN1.out.wr.lt
    have z1 : ¬ sv1.ownBlock = some w1.heap.size := by intro e; have := (hs1 _ e).2; omega
    have z2 : ¬ fv1.ownBlock = some w1.heap.size := by intro e; have := (hs2 _ e).2; omega
    have hsz : ∀ ob, w1.heap.size < (w1.alloc ob).heap.size := by intro ob; simp
    have T2 : Two w w2 R (.slice (some ⟨gn, 0, none⟩) M.length cn) sv fv sv2 fv2 M W2 w1.heap.size pa pb := by
      have kk := (HK1.out.alloc (.cells #[.int .i64 pa.first, .int .i64 pa.last, .bool pa.nothing] 159)).trans' k2 (WSp.back (w1 := w1) HB1.out HB2.out)
      refine ⟨(HN1.out.nw ((Kp.refl _ w1).alloc _)).next k2 hm2, kk, HB1.out.trans b1 (by have := HK1.out.size; have := hsz (.cells #[.int .i64 pa.first, .int .i64 pa.last, .bool pa.nothing] 159); omega), HB2.out.trans b2 (by have := HK1.out.size; have := hsz (.cells #[.int .i64 pa.first, .int .i64 pa.last, .bool pa.nothing] 159); omega), ?_, ?_, ?_, ?_, ?_, ?_, by omega⟩
      · exact b1.not HF1.out (by have := hsz (.cells #[.int .i64 pa.first, .int .i64 pa.last, .bool pa.nothing] 159); omega)
      · exact b2.not HF2.out (by have := hsz (.cells #[.int .i64 pa.first, .int .i64 pa.last, .bool pa.nothing] 159); omega)
      · exact b1.not z1 (hsz _)
      · exact b2.not z2 (hsz _)
      · exact (HP1.out.kp ((Kp.refl (fun _ => False) _).alloc _) (fun h => h)).kp k2 (nWS (fun e => n0 e.symm) HF1.out HF2.out)
      · exact (PtAt.new w1 pa 159 (B := w1.heap.size) rfl).kp k2 (nWS (by omega) z1 z2)
    have HT : Hid (Two w w2 R (.slice (some ⟨gn, 0, none⟩) M.length cn) sv fv sv2 fv2 M W2 w1.heap.size pa pb) := T2
    obtain ⟨a0, a1, a2, az⟩ := T2.p2
    have hl2 := T2.p2.lt
    clear hm2 k2 b1 b2 hs1 hs2 z1 z2 hsz T2 x3
    generalize w1.heap.size = B2 at *
    have q1 : ¬ B2 = w2.heap.size := by omega
    have HJ : Hid (∀ W', Nw w2 W' → Calls Tryz.prog 97 #[.pointer (some ⟨R, 0, none⟩), .agg #[.int .i64 pa.first, .int .i64 pa.last, .bool pa.nothing], .agg #[.int .i64 pb.first, .int .i64 pb.last, .bool pb.nothing]] W' fun e w' => e = .returned (partV (joinS pa pb)) ∧ WrM w' R (.slice (some ⟨gn, 0, none⟩) M.length cn) sv2 fv2 W2.1 (followS W2.2 pa.last pb.first) ∧ Kp (fun k => fv2.ownBlock = some k) W' w') := fun W' kW => join_any R pa pb HPA.out HPB.out _ sv2 fv2 W2.1 W2.2 W' (HT.out.wn.wr.nw kW) HW2S.out (by omega)
    have o1 := bits_or25 pa.first pb.first HPA.out.1 HPB.out.1
    have o2 := bits_or25 pa.last pb.last HPA.out.2 HPB.out.2
    have hz2 := HT.out.p0.lt
    have q2 : ¬ w.heap.size = w2.heap.size := by omega
    unfold partV
    first
    | (go_wp2_with fail
       refine (HJ.out _ ((Kp.refl _ w2).alloc _)).mono ?_
       rintro e w3 ⟨rfl, hm3, k3⟩
       have P3 : Hid (PtAt w3 w.heap.size ⟨0, 0, false⟩) := (HT.out.p0.kp ((Kp.refl (fun _ => False) _).alloc _) (fun h => h)).kp k3 HT.out.f2
       have FIN : Hid (WrPost w R (.slice (some ⟨gn, 0, none⟩) M.length cn) sv fv (joinS pa pb) W2.1 (followS W2.2 pa.last pb.first) (.returned (partV (joinS pa pb))) (setP w3 w.heap.size (joinS pa pb))) := wr_fin hlt hm3 ((HT.out.kp.alloc _).trans' k3 (fun b hb e => WSp.back (w1 := w) HT.out.n1 HT.out.n2 b hb (Or.inr (Or.inr e)))) HT.out.n1 HT.out.n2 HT.out.f1 HT.out.f2
       obtain ⟨e0, e1, e2, ez⟩ := P3.out
       clear hm3 k3 a0 a1 a2 az HJ o1 o2
       unfold partV
       go_wp2
       refine bodyPost_ret (results_cX Tryz.results70 _ _ _ ⟨w.heap.size, 0, none⟩ rfl _ (P3.out.set (joinS pa pb)).load) rfl ?_
       exact FIN.out)
    | (have FIN : Hid (∀ o : Obj, WrPost w R (.slice (some ⟨gn, 0, none⟩) M.length cn) sv fv (eitherS pa pb) W2.1 W2.2 (.returned (partV (eitherS pa pb))) ((setP w2 w.heap.size (eitherS pa pb)).alloc o)) := fun o => (wr_fin hlt HT.out.wn.wr HT.out.kp HT.out.n1 HT.out.n2 HT.out.f1 HT.out.f2).alloc o
       have P3 : Hid (∀ o : Obj, PtAt ((setP w2 w.heap.size (eitherS pa pb)).alloc o) w.heap.size (eitherS pa pb)) := fun o => (HT.out.p0.set _).kp ((Kp.refl (fun _ => False) _).alloc _) (fun h => h)
       obtain ⟨e0, e1, e2, ez⟩ := HT.out.p0
       clear HJ
       obtain ⟨af, al, an⟩ := pa
       obtain ⟨bf, bl, bn⟩ := pb
       simp only at a0 a1 a2 o1 o2
       cases an with
       | true =>
         go_wp2
         refine bodyPost_ret (results_cX Tryz.results70 _ _ _ ⟨w.heap.size, 0, none⟩ rfl _ (P3.out _).load) rfl ?_
         exact FIN.out _
       | false =>
         go_wp2
         refine bodyPost_ret (results_cX Tryz.results70 _ _ _ ⟨w.heap.size, 0, none⟩ rfl _ (P3.out _).load) rfl ?_
         exact FIN.out _)
theorem WrM.wr_fo_lt {w:World} {R:Nat} {nv sv fv:Value} {S F:List Nat} (h:WrM w R nv sv fv S F):∀b,fv.ownBlock=some b→b<w.heap.size:=fun b hb=>(h.fo.lt b hb).2
theorem WrM.wr_so_lt {w:World} {R:Nat} {nv sv fv:Value} {S F:List Nat} (h:WrM w R nv sv fv S F):∀b,sv.ownBlock=some b→b<w.heap.size:=fun b hb=>(h.so.lt b hb).2
theorem wr_finB {w w1:World} {R B:Nat} {nv sv fv sv1 fv1:Value} {p:Pp} {S F:List Nat} (hB:w.heap.size≤B) (hR:¬R=B) (hm:WrM w1 R nv sv1 fv1 S F) (k:Kp (WSp R sv fv) w w1) (n1:NewB w sv sv1) (n2:NewB w fv fv1) (h1:¬sv1.ownBlock=some B) (h2:¬fv1.ownBlock=some B) :
  WrPost w R nv sv fv p S F (.returned (partV p)) (setP w1 B p) :=
 ⟨sv1,fv1,rfl,hm.off (setP_kp w1 B p) hR h1 h2,k.trans' (setP_kp w1 B p) (by intro b hb e;omega),n1,n2⟩
def ndV (x:Nd):Value:=.agg #[.int .i64 x.op,.int .i64 x.step,.int .i64 x.left,.int .i64 x.right,.int .i64 x.low,.int .i64 x.high]
theorem endless_any (M:List Nd) (gn cn k jl:Nat) (lo:Int) (b:Nt) (hb:WriteOk M (.slice (some ⟨gn,0,none⟩) M.length cn) b jl k) (R:Nat) (sv fv:Value) (W:WSt) (n:Nat) (w:World) (h:WrN w R (.slice (some ⟨gn,0,none⟩) M.length cn) sv fv M W) (hW:WOk W n) (hn:n+b.lenN≤10000) :
  Calls Tryz.prog 98 #[.pointer (some ⟨R,0,none⟩),ndV ⟨3,0,jl,0,lo,-1⟩] w (WrPost w R (.slice (some ⟨gn,0,none⟩) M.length cn) sv fv (wrS (.rnd lo (-1) b) k W).1 (wrS (.rnd lo (-1) b) k W).2.1 (wrS (.rnd lo (-1) b) k W).2.2):=by
 have H:Hid (WrN w R (.slice (some ⟨gn,0,none⟩) M.length cn) sv fv M W):=h
 have hlt:=h.wr.lt
 have hsl:=h.wr.so.lt
 have hfl:=h.wr.fo.lt
 have HSB:Hid (∀b,w.heap.size≤b→¬sv.ownBlock=some b):=fun b hb e=>by have:=(hsl b e).2;omega
 have HFB:Hid (∀b,w.heap.size≤b→¬fv.ownBlock=some b):=fun b hb e=>by have:=(hfl b e).2;omega
 have hW1:=(wrS_ok b k).more W n hW
 have hpa:=(wrS_ok b k).part W n hW
 have HCL:Hid (∀W',Nw w W'→Calls Tryz.prog 70 #[.pointer (some ⟨R,0,none⟩),.int .i64 jl] W' (WrPost W' R (.slice (some ⟨gn,0,none⟩) M.length cn) sv fv (wrS b k W).1 (wrS b k W).2.1 (wrS b k W).2.2)):=fun W' kW=>hb R sv fv W n W' (h.nw kW) hW (by omega)
 have hres:wrS (.rnd lo (-1) b) k W=(⟨(wrS b k W).1.first,(wrS b k W).1.last,(wrS b k W).1.nothing||decide (lo=0)⟩,((wrS b k W).2.1,followS (wrS b k W).2.2 (wrS b k W).1.last (wrS b k W).1.first)):=rfl
 rw [hres]
 clear hres
 generalize (wrS b k W).1=pa at *
 generalize (wrS b k W).2=W1 at *
 have HPA:Hid (pa.ok):=hpa
 have hW1f:=hW1.f
 have HW1S:Hid (Sets W1.2):=hW1.sets
 have n0:¬R=w.heap.size:=by omega
 have n1:¬R=w.heap.size+1:=by omega
 clear h hsl hfl hW hb hW1 hpa
 unfold ndV
 go_enter Tryz.func98,Tryz.ntmps98
 go_wp2_with fail
 refine (HCL.out _ (((Kp.refl _ w).alloc _).alloc _)).mono ?_
 rintro e w1 ⟨sv1,fv1,rfl,hm1,k1,b1,b2⟩
 have hz:w.heap.size≤w.heap.size+1:=by omega
 have hsz2:w.heap.size+2≤w1.heap.size:=by have:=k1.size;simp at this;omega
 have P1:PtAt w1 (w.heap.size+1) ⟨0,0,false⟩:=by
  have p0:=PtAt.new (w.alloc (.cells #[.int .i64 3,.int .i64 0,.int .i64 jl,.int .i64 0,.int .i64 lo,.int .i64 (-1)] 186)) ⟨0,0,false⟩ 159 (B:=w.heap.size+1) (by simp)
  exact p0.kp k1 (nWS (fun e=>n1 e.symm) (HSB.out _ hz) (HFB.out _ hz))
 have x4:w1.cell? ⟨w.heap.size,4,none⟩=some (.int .i64 lo):=by
  rw [k1.cell (p:=⟨w.heap.size,4,none⟩) (two_lt _ _ _) (nWS (fun e=>n0 e.symm) (HSB.out _ (Nat.le_refl _)) (HFB.out _ (Nat.le_refl _)))]
  simp [go_sem,World.cell?_alloc_at]
 have kw1:Kp (WSp R sv fv) w w1:=(((Kp.refl _ w).alloc _).alloc _).trans k1
 have f1:¬sv1.ownBlock=some (w.heap.size+1):=b1.not (HSB.out _ hz) (by simp)
 have f2:¬fv1.ownBlock=some (w.heap.size+1):=b2.not (HFB.out _ hz) (by simp)
 have g2:¬fv1.ownBlock=some w.heap.size:=b2.not (HFB.out _ (Nat.le_refl _)) (two_lt _ _ _)
 have HB1:Hid (NewB w sv sv1):=b1.of (Nat.le_of_lt (two_lt _ _ _))
 have HB2:Hid (NewB w fv fv1):=b2.of (Nat.le_of_lt (two_lt _ _ _))
 have HP1:Hid (PtAt w1 (w.heap.size+1) ⟨0,0,false⟩):=P1
 have HK1:Hid (Kp (WSp R sv fv) w w1):=kw1
 have HM1:Hid (WrM w1 R (.slice (some ⟨gn,0,none⟩) M.length cn) sv1 fv1 W1.1 W1.2):=hm1
 have HF1:Hid (¬sv1.ownBlock=some (w.heap.size+1)):=f1
 have HF2:Hid (¬fv1.ownBlock=some (w.heap.size+1)):=f2
 have HG2:Hid (¬fv1.ownBlock=some w.heap.size):=g2
 clear hm1 k1 b1 b2 kw1 P1 f1 f2 g2 HCL
 have HFO:Hid (∀W',Nw w1 W'→Calls Tryz.prog 71 #[.pointer (some ⟨R,0,none⟩),.int .i64 pa.last,.int .i64 pa.first] W' fun e w'=>e=.returned (.tuple #[])∧WrM w' R (.slice (some ⟨gn,0,none⟩) M.length cn) sv1 fv1 W1.1 (followS W1.2 pa.last pa.first)∧Kp (fun k=>fv1.ownBlock=some k) W' w'):=fun W' kW=>follow_any R pa.last pa.first _ sv1 fv1 W1.1 W1.2 W' (HM1.out.nw kW) HPA.out.2 HPA.out.1 HW1S.out (by omega)
 unfold partV
 go_wp2_with fail
 refine (HFO.out _ ((Kp.refl _ w1).alloc _)).mono ?_
 rintro e w2 ⟨rfl,hm2,k2⟩
 have hf1:=HM1.out.wr_fo_lt
 have hs1:=HM1.out.wr_so_lt
 have zf:¬fv1.ownBlock=some w1.heap.size:=by intro e;have:=hf1 _ e;omega
 have zs:¬sv1.ownBlock=some w1.heap.size:=by intro e;have:=hs1 _ e;omega
 have P2:Hid (PtAt w2 (w.heap.size+1) ⟨0,0,false⟩):=(HP1.out.kp ((Kp.refl (fun _=>False) _).alloc _) (fun h=>h)).kp k2 HF2.out
 have PB:Hid (PtAt w2 w1.heap.size pa):=(PtAt.new w1 pa 159 (B:=w1.heap.size) rfl).kp k2 zf
 have y4:w2.cell? ⟨w.heap.size,4,none⟩=some (.int .i64 lo):=by
  rw [k2.cell (p:=⟨w.heap.size,4,none⟩) (by show w.heap.size<_;simp;omega) HG2.out]
  have:w.heap.size<w1.heap.size:=by omega
  simp [go_sem,this,x4,World.cell?_alloc_past]
 have K2:Hid (Kp (WSp R sv fv) w w2):=(HK1.out.alloc _).trans' k2 (fun b hb e=>WSp.back (w1:=w) HB1.out HB2.out b hb (Or.inr (Or.inr e)))
 have HM2:Hid (WrM w2 R (.slice (some ⟨gn,0,none⟩) M.length cn) sv1 fv1 W1.1 (followS W1.2 pa.last pa.first)):=hm2
 have hbl:=PB.out.lt
 have hRl:=HM1.out.lt
 clear hm2 k2 x4 hf1 hs1 HFO
 obtain ⟨a0,a1,a2,az⟩:=PB.out
 obtain ⟨e0,e1,e2,ez⟩:=P2.out
 generalize w1.heap.size=B at *
 have q1:¬w.heap.size+1=B:=by omega
 have q1':¬B=w.heap.size+1:=by omega
 have q2:¬w.heap.size=B:=by omega
 have HZF:Hid (¬fv1.ownBlock=some B):=zf
 have HZS:Hid (¬sv1.ownBlock=some B):=zs
 clear zf zs
 have FIN:Hid (∀v:Value,∀p:Pp,WrPost w R (.slice (some ⟨gn,0,none⟩) M.length cn) sv fv p W1.1 (followS W1.2 pa.last pa.first) (.returned (partV p)) (setP (w2.setCell ⟨B,2,none⟩ v) (w.heap.size+1) p)):=by
  intro v p
  have kk:Kp (fun b=>b=B) w2 (w2.setCell ⟨B,2,none⟩ v):=(Kp.refl (fun b=>b=B) w2).setCell (p:=⟨B,2,none⟩) (Or.inr rfl) _
  exact wr_finB hz n1 (HM2.out.off kk (by omega) HZS.out HZF.out) (K2.out.trans' kk (by intro b hb e;omega)) HB1.out HB2.out HF1.out HF2.out
 have P3:Hid (∀v:Value,PtAt (w2.setCell ⟨B,2,none⟩ v) (w.heap.size+1) ⟨0,0,false⟩):=by
  intro v
  have kk:Kp (fun b=>b=B) w2 (w2.setCell ⟨B,2,none⟩ v):=(Kp.refl (fun b=>b=B) w2).setCell (p:=⟨B,2,none⟩) (Or.inr rfl) _
  exact P2.out.kp kk (by show ¬w.heap.size+1=B;omega)
 obtain ⟨af,al,an⟩:=pa
 simp only at a0 a1 a2
 cases an with
 | true =>
  have HE:Hid ((⟨af,al,true||decide (lo=0)⟩:Pp)=⟨af,al,true⟩):=by show _=_;simp
  rw [HE.out]
  go_wp2
  refine bodyPost_ret (results_cX Tryz.results98 _ _ _ ⟨w.heap.size+1,0,none⟩ rfl _ ((P3.out _).set ⟨af,al,true⟩).load) rfl ?_
  exact FIN.out _ _
 | false =>
  have HE:Hid ((⟨af,al,false||decide (lo=0)⟩:Pp)=⟨af,al,lo == 0⟩):=by show _=_;simp [beq_iff_eq];rfl
  rw [HE.out]
  go_wp2
  refine bodyPost_ret (results_cX Tryz.results98 _ _ _ ⟨w.heap.size+1,0,none⟩ rfl _ ((P3.out _).set ⟨af,al,lo == 0⟩).load) rfl ?_
  exact FIN.out _ _
end Go.Proofs.YtcboiapggnmpfaaGreatDoor
