import Derived.Test.YtcboiapggnmpfaaGreatDoorQbc
namespace Go.Proofs.YtcboiapggnmpfaaGreatDoor
set_option maxRecDepth 100000
set_option maxHeartbeats 8000000
set_option linter.unusedSimpArgs false
set_option linter.unusedVariables false
open Go.RowKit
structure CrFr (R o:Nat) (v v':Value) (w w':World):Prop where
 kp:Kp (fun b=>b=R∨v.ownBlock=some b) w w'
 c:∀p,¬p=o→¬p=o+2→w'.cell? ⟨R,p,none⟩=w.cell? ⟨R,p,none⟩
 ow:∀b,v'.ownBlock=some b→v.ownBlock=some b∨w.heap.size≤b
theorem CrFr.of_nw {R o:Nat} {v:Value} {w w':World} (k:Nw w w') (hR:R<w.heap.size):CrFr R o v v w w' :=
 ⟨k.mono (fun _ _ h=>h.elim),fun p _ _=>k.cell (p:=⟨R,p,none⟩) hR (fun h=>h),fun b h=>Or.inl h⟩
def CrPost (w:World) (R o base:Nat) (v:Value) (c:Crw) (e:Ending) (w':World):Prop :=
 e=.returned (.tuple #[])∧∃v',CrM w' R o base v' c∧CrFr R o v v' w w'
theorem add_here (R o base:Nat) (v:Value) (c:Crw) (t:Thr) (w:World) (h:CrM w R o base v c) (hN:c.l.length≤10000) (hok:∀u∈c.l,ThrOk u) (ht:ThrOk t) (hpl:c.l[plcT c.l t]? = some t) :
  Calls Tryz.prog 113 #[.pointer (some ⟨R,o,none⟩),.agg (thC t).toArray] w (CrPost w R o base v c):=by
 obtain ⟨dd,hu,hd⟩:=Option.map_eq_some_iff.1 Tryz.rowTh
 have HU:Hid (Tryz.prog.underlying 129=some dd):=hu
 have HD:Hid (dd.isRow=true):=hd
 have hlt:plcT c.l t<c.l.length:=(List.getElem?_eq_some_iff.1 hpl).1
 obtain ⟨g,cc,rfl⟩:=owns_some h.own (by omega)
 have H:Hid (CrM w R o base (.slice (some ⟨g,0,none⟩) c.l.length cc) c):=h
 have HRL:Hid (R<w.heap.size):=h.rl
 have HPO:Hid (∀W,Nw w W→Calls Tryz.prog 121 #[.pointer (some ⟨R,o,none⟩),.agg (thC t).toArray] W (PlPost (plcT c.l t) W)):=fun W kW=>placeOf_any R o base _ c t W (h.nw kW) hN
 have HR:Hid (∀W,Nw w W→W.rangeAt g (plcT c.l t*27) (thC t)):=fun W kW=>owns_rangeT (h.nw kW).own hpl
 have HBX:Hid (∀W,Nw (w.alloc (.cells (thC t).toArray 129)) W→W.rangeAt w.heap.size 0 (thC t)):=fun W kW=>((Bx.new w (thC t) _).kp (by rw [thC_len];omega) kW (fun h=>h)).r
 have HK0:Hid (Nw w (w.alloc (.cells (thC t).toArray 129))):=(Kp.refl _ w).alloc _
 have HT:Hid (ThrOk t):=ht
 have HS:Hid (w.heap.size<(w.alloc (.cells (thC t).toArray 129)).heap.size):=by show _<_;simp
 have HI:Hid ((Tryz.prog.info? 129).map (·.size)=some (thC t).length):=size_th t
 generalize plcT c.l t=pl at *
 obtain ⟨l,most,over⟩:=c
 simp only at *
 have HEQ:Hid (∀(a:Act) (x y:Operand) (o:Oper) (ty:TypeId),o.op=.binOp .eql 129 x y ty→a.eval x=.agg (thC t).toArray→a.eval y=.agg (thC t).toArray→∀W,(execOp a.eval o).run Tryz.prog W=.ok (.value (.bool true)) W):=by
  intro a x y o ty h1 h2 h3 W
  have:=exec_eql h1 h2 h3 HT.out HT.out W
  simpa using this
 clear hu hd h hok ht hpl
 generalize thC t=LT at *
 go_enter Tryz.func113,Tryz.ntmps113
 go_wp2_with (first
  | (with_reducible (show Go.wpList _ _ _ ({ dst:=_,op:=Op.load 129 _,type:=_,pos:=_,after:=_,guard:=_ }::_) _ _);refine wpList_load_mid rfl 129 _ rfl w.heap.size 0 rfl LT dd (HBX.out _ (Kp.refl _ _)) HU.out HD.out HI.out ?_)
  | fail)
 refine (HPO.out _ HK0.out).mono ?_
 rintro e1 w1 ⟨rfl,k1⟩
 have K1:Hid (Nw (w.alloc (.cells LT.toArray 129)) w1):=k1
 have KW:Hid (Nw w w1):=HK0.out.trans k1
 have hs1:w.heap.size<w1.heap.size:=Nat.lt_of_lt_of_le HS.out k1.size
 have hR1:R<w1.heap.size:=by have:=HRL.out;omega
 clear k1 HPO
 have s1:∀W,Nw w1 W→W.cell? ⟨R,o,none⟩=some (.slice (some ⟨g,0,none⟩) l.length cc):=fun W kW=>(H.out.nw (KW.out.trans kW)).c0
 go_wp2
 refine wp_region_held_drew (S:=fun W=>Nw w1 W) (by kernel_rfl) ((Kp.refl _ _).drew) (fun hHeld => ?_)
 refine tM 0 rfl (fun W hSW=>by (try dsimp only at hSW);go_simp;rw []) hHeld ?_
 refine tM 1 rfl (fun W hSW=>by (try dsimp only at hSW);go_simp;rw []) hHeld ?_
 refine tM 2 rfl (fun W hSW=>by (try dsimp only at hSW);go_simp;rw []) hHeld ?_
 refine tM 3 rfl (fun W hSW=>by (try dsimp only at hSW);go_simp;rw []) hHeld ?_
 refine tM 4 rfl (fun W hSW=>by (try dsimp only at hSW);go_simp;rw []) hHeld ?_
 refine tM 5 rfl (fun W hSW=>by (try dsimp only at hSW);go_simp;rw []) hHeld ?_
 refine tM 6 rfl (fun W hSW=>by (try dsimp only at hSW);go_simp;rw []) hHeld ?_
 refine tM 7 rfl (fun W hSW=>by (try dsimp only at hSW);go_simp;rw []) hHeld ?_
 refine tM 8 rfl (fun W hSW=>by (try dsimp only at hSW);go_simp;rw []) hHeld ?_
 refine tM 9 rfl (fun W hSW=>by (try dsimp only at hSW);go_simp;rw []) hHeld ?_
 refine tM 10 rfl (fun W hSW=>by (try dsimp only at hSW);go_simp;rw []) hHeld ?_
 refine tM 11 rfl (fun W hSW=>by (try dsimp only at hSW);go_simp;rw []) hHeld ?_
 refine tM 12 rfl (fun W hSW=>by (try dsimp only at hSW);go_simp;rw []) hHeld ?_
 refine tM 13 rfl (fun W hSW=>by (try dsimp only at hSW);go_simp;rw []) hHeld ?_
 refine tN (i:=14) (v:=_) rfl (yieldsIf_load_mid (by rfl) 129 _ rfl g (pl*27) rfl LT dd (fun W kW=>HR.out W (KW.out.trans kW)) HU.out HD.out HI.out) hHeld ?_
 refine tN (i:=15) (v:=_) rfl (yieldsIf_load_mid (by rfl) 129 _ rfl w.heap.size (0) rfl LT dd (fun W kW=>HBX.out W (K1.out.trans kW)) HU.out HD.out HI.out) hHeld ?_
 refine tN (i:=16) (v:=(.bool true)) rfl (Or.inl ⟨by rfl,fun W hSW=>HEQ.out _ _ _ _ _ rfl rfl rfl W⟩) hHeld ?_
 refine tM 17 rfl (fun W hSW=>by (try dsimp only at hSW);go_simp;rw []) hHeld ?_
 refine wpAnyH_done (by kernel_rfl) ?_ _
 have HKE:Hid (Nw w w1.drew):=KW.out.drew
 clear hHeld s1
 go_wp2
 go_end0
 exact ⟨rfl,_,H.out.nw HKE.out,CrFr.of_nw HKE.out HRL.out⟩
theorem add_over (R o base:Nat) (v:Value) (c:Crw) (t:Thr) (w:World) (h:CrM w R o base v c) (hN:c.l.length≤10000) (hok:∀u∈c.l,ThrOk u) (ht:ThrOk t) (hpl:¬c.l[plcT c.l t]? = some t) (hmo:c.most≤c.l.length) :
  Calls Tryz.prog 113 #[.pointer (some ⟨R,o,none⟩),.agg (thC t).toArray] w (CrPost w R o base v ⟨c.l,c.most,true⟩):=by
 obtain ⟨dd,hu,hd⟩:=Option.map_eq_some_iff.1 Tryz.rowTh
 have HU:Hid (Tryz.prog.underlying 129=some dd):=hu
 have HD:Hid (dd.isRow=true):=hd
 have hle:plcT c.l t≤c.l.length:=plcT_le c.l t
 obtain ⟨gp,cc,rfl⟩:=ownsLenX h.own
 have H:Hid (CrM w R o base (.slice gp c.l.length cc) c):=h
 have HRL:Hid (R<w.heap.size):=h.rl
 have HPO:Hid (∀W,Nw w W→Calls Tryz.prog 121 #[.pointer (some ⟨R,o,none⟩),.agg (thC t).toArray] W (PlPost (plcT c.l t) W)):=fun W kW=>placeOf_any R o base _ c t W (h.nw kW) hN
 have HBX:Hid (∀W,Nw (w.alloc (.cells (thC t).toArray 129)) W→W.rangeAt w.heap.size 0 (thC t)):=fun W kW=>((Bx.new w (thC t) _).kp (by rw [thC_len];omega) kW (fun h=>h)).r
 have HK0:Hid (Nw w (w.alloc (.cells (thC t).toArray 129))):=(Kp.refl _ w).alloc _
 have HT:Hid (ThrOk t):=ht
 have HS:Hid (w.heap.size<(w.alloc (.cells (thC t).toArray 129)).heap.size):=by show _<_;simp
 have HI:Hid ((Tryz.prog.info? 129).map (·.size)=some (thC t).length):=size_th t
 have HEQ:Hid (∀(u:Thr),ThrOk u→¬u=t→∀(a:Act) (x y:Operand) (o:Oper) (ty:TypeId),o.op=.binOp .eql 129 x y ty→a.eval x=.agg (thC u).toArray→a.eval y=.agg (thC t).toArray→∀W,(execOp a.eval o).run Tryz.prog W=.ok (.value (.bool false)) W):=by
  intro u hu hne a x y o ty h1 h2 h3 W
  have:=exec_eql h1 h2 h3 hu HT.out W
  simpa [hne] using this
 have HOK:Hid (∀u∈c.l,ThrOk u):=hok
 have hca:(∃u,c.l[plcT c.l t]? = some u∧¬u=t)∨c.l.length≤plcT c.l t:=by
  by_cases hlt:plcT c.l t<c.l.length
  ·exact Or.inl ⟨_,List.getElem?_eq_getElem hlt,fun e=>hpl (by rw [List.getElem?_eq_getElem hlt,e])⟩
  ·exact Or.inr (by omega)
 have OV:Hid (∀W,Nw w W→CrPost w R o base (.slice gp c.l.length cc) ⟨c.l,c.most,true⟩ (.returned (.tuple #[])) (W.setCell ⟨R,o+2,none⟩ (.bool true))):=by
  intro W kW
  have h2:=h.nw kW
  have kk:Kp (fun b=>b=R) W (W.setCell ⟨R,o+2,none⟩ (.bool true)):=(Kp.refl (fun b=>b=R) W).setCell (p:=⟨R,o+2,none⟩) (Or.inr rfl) _
  refine ⟨rfl,_,⟨?_,?_,?_,?_,?_,h2.lt⟩,⟨(kW.mono (fun _ _ h=>h.elim)).trans' (kk.mono (fun b _ e=>Or.inl e)) (fun b _ e=>e),?_,fun b hb=>Or.inl hb⟩⟩
  ·simp [go_sem,h2.c0]
  ·simp [go_sem,h2.c1]
  ·simp [go_sem,h2.c2,h2.z]
  ·intro p;rw [←h2.z p];simp [go_sem]
  ·exact owns_kp h2.own kk (by intro b hb e;have:=(h2.own.lt b hb).1;have:=h2.lt;omega)
  ·intro p hp1 hp2
   have hp3:¬o+2=p:=fun e=>hp2 e.symm
   rw [←kW.cell (p:=⟨R,p,none⟩) h.rl (fun h=>h)]
   simp [go_sem,hp2,hp3]
 generalize plcT c.l t=pl at *
 obtain ⟨l,most,over⟩:=c
 simp only at *
 have hmo':decide (most≤(l.length:Int))=true:=by simpa using hmo
 clear hok hpl hmo
 clear hu hd h ht
 generalize thC t=LT at *
 go_enter Tryz.func113,Tryz.ntmps113
 go_wp2_with (first
  | (with_reducible (show Go.wpList _ _ _ ({ dst:=_,op:=Op.load 129 _,type:=_,pos:=_,after:=_,guard:=_ }::_) _ _);refine wpList_load_mid rfl 129 _ rfl w.heap.size 0 rfl LT dd (HBX.out _ (Kp.refl _ _)) HU.out HD.out HI.out ?_)
  | fail)
 refine (HPO.out _ HK0.out).mono ?_
 rintro e1 w1 ⟨rfl,k1⟩
 have K1:Hid (Nw (w.alloc (.cells LT.toArray 129)) w1):=k1
 have KW:Hid (Nw w w1):=HK0.out.trans k1
 have hs1:w.heap.size<w1.heap.size:=Nat.lt_of_lt_of_le HS.out k1.size
 have hR1:R<w1.heap.size:=by have:=HRL.out;omega
 clear k1 HPO
 have s1:∀W,Nw w1 W→W.cell? ⟨R,o,none⟩=some (.slice gp l.length cc):=fun W kW=>(H.out.nw (KW.out.trans kW)).c0
 have s2:∀W,Nw w1 W→W.cell? ⟨R,o+1,none⟩=some (.int .i64 most):=fun W kW=>(H.out.nw (KW.out.trans kW)).c1
 go_wp2
 rcases hca with hca|hca
 ·obtain ⟨u,hu1,hu2⟩:=hca
  have hlt:pl<l.length:=(List.getElem?_eq_some_iff.1 hu1).1
  obtain ⟨g,cc',hgp⟩:=owns_some H.out.own (by show 0<l.length;omega)
  simp only [Value.slice.injEq,true_and] at hgp
  obtain ⟨rfl,rfl⟩:=hgp
  have HR:Hid (∀W,Nw w W→W.rangeAt g (pl*27) (thC u)):=fun W kW=>owns_rangeT (H.out.nw kW).own hu1
  have HNE:Hid (¬u=t):=hu2
  have HUK:Hid (ThrOk u):=HOK.out u (List.mem_of_getElem? hu1)
  clear hu1 hu2
  refine wp_region_held_drew (S:=fun W=>Nw w1 W) (by kernel_rfl) ((Kp.refl _ _).drew) (fun hHeld => ?_)
  refine tM 0 rfl (fun W hSW=>by (try dsimp only at hSW);go_simp;rw []) hHeld ?_
  refine tM 1 rfl (fun W hSW=>by (try dsimp only at hSW);go_simp;rw []) hHeld ?_
  refine tM 2 rfl (fun W hSW=>by (try dsimp only at hSW);go_simp;rw []) hHeld ?_
  refine tM 3 rfl (fun W hSW=>by (try dsimp only at hSW);go_simp;rw []) hHeld ?_
  refine tM 4 rfl (fun W hSW=>by (try dsimp only at hSW);go_simp;rw []) hHeld ?_
  refine tM 5 rfl (fun W hSW=>by (try dsimp only at hSW);go_simp;rw []) hHeld ?_
  refine tM 6 rfl (fun W hSW=>by (try dsimp only at hSW);go_simp;rw []) hHeld ?_
  refine tM 7 rfl (fun W hSW=>by (try dsimp only at hSW);go_simp;rw []) hHeld ?_
  refine tM 8 rfl (fun W hSW=>by (try dsimp only at hSW);go_simp;rw []) hHeld ?_
  refine tM 9 rfl (fun W hSW=>by (try dsimp only at hSW);go_simp;rw []) hHeld ?_
  refine tM 10 rfl (fun W hSW=>by (try dsimp only at hSW);go_simp;rw []) hHeld ?_
  refine tM 11 rfl (fun W hSW=>by (try dsimp only at hSW);go_simp;rw []) hHeld ?_
  refine tM 12 rfl (fun W hSW=>by (try dsimp only at hSW);go_simp;rw []) hHeld ?_
  refine tM 13 rfl (fun W hSW=>by (try dsimp only at hSW);go_simp;rw []) hHeld ?_
  refine tN (i:=14) (v:=_) rfl (yieldsIf_load_mid (by rfl) 129 _ rfl g (pl*27) rfl (thC u) dd (fun W kW=>HR.out W (KW.out.trans kW)) HU.out HD.out (size_th u)) hHeld ?_
  refine tN (i:=15) (v:=_) rfl (yieldsIf_load_mid (by rfl) 129 _ rfl w.heap.size (0) rfl LT dd (fun W kW=>HBX.out W (K1.out.trans kW)) HU.out HD.out HI.out) hHeld ?_
  refine tN (i:=16) (v:=(.bool false)) rfl (Or.inl ⟨by rfl,fun W hSW=>HEQ.out u HUK.out HNE.out _ _ _ _ _ rfl rfl rfl W⟩) hHeld ?_
  refine tM 17 rfl (fun W hSW=>by (try dsimp only at hSW);go_simp;rw []) hHeld ?_
  refine wpAnyH_done (by kernel_rfl) ?_ _
  have HKE:Hid (Nw w1 w1.drew):=(Kp.refl _ _).drew
  clear hHeld
  go_wp2
  refine wp_region_held_drew (S:=fun W=>Nw w1 W) (by kernel_rfl) (((Kp.refl _ _).drew).drew) (fun hHeld => ?_)
  refine tM 0 rfl (fun W hSW=>by (try dsimp only at hSW);go_simp;rw []) hHeld ?_
  refine tM 1 rfl (fun W hSW=>by (try dsimp only at hSW);go_simp;rw []) hHeld ?_
  refine tM 2 rfl (fun W hSW=>by (try dsimp only at hSW);go_simp;rw []) hHeld ?_
  refine tM 3 rfl (fun W hSW=>by (try dsimp only at hSW);go_simp;rw []) hHeld ?_
  refine tM 4 rfl (fun W hSW=>by (try dsimp only at hSW);go_simp;rw []) hHeld ?_
  refine tM 5 rfl (fun W hSW=>by (try dsimp only at hSW);go_simp;rw []) hHeld ?_
  refine tM 6 rfl (fun W hSW=>by (try dsimp only at hSW);go_simp;rw []) hHeld ?_
  refine tM 7 rfl (fun W hSW=>by (try dsimp only at hSW);go_simp;rw []) hHeld ?_
  refine tM 8 rfl (fun W hSW=>by (try dsimp only at hSW);go_simp;rw []) hHeld ?_
  refine tM 9 rfl (fun W hSW=>by (try dsimp only at hSW);go_simp;rw []) hHeld ?_
  refine wpAnyH_done (by kernel_rfl) ?_ _
  have c2:=(H.out.nw KW.out).c2
  have z2:=(H.out.nw KW.out).z
  clear hHeld s1 s2
  go_wp2
  go_end0
  exact OV.out _ (KW.out.drew.drew)
 ·have hca':decide (pl<l.length)=false:=by simp;omega
  have hca2:pl=l.length:=by omega
  clear hca
  refine wp_region_held_drew (S:=fun W=>Nw w1 W) (by kernel_rfl) ((Kp.refl _ _).drew) (fun hHeld => ?_)
  refine tM 0 rfl (fun W hSW=>by (try dsimp only at hSW);go_simp;rw []) hHeld ?_
  refine tM 1 rfl (fun W hSW=>by (try dsimp only at hSW);go_simp;rw []) hHeld ?_
  refine tM 2 rfl (fun W hSW=>by (try dsimp only at hSW);go_simp;rw []) hHeld ?_
  refine tM 3 rfl (fun W hSW=>by (try dsimp only at hSW);go_simp;rw []) hHeld ?_
  refine tM 4 rfl (fun W hSW=>by (try dsimp only at hSW);go_simp;rw []) hHeld ?_
  refine tM 5 rfl (fun W hSW=>by (try dsimp only at hSW);go_simp;rw []) hHeld ?_
  refine tM 6 rfl (fun W hSW=>by (try dsimp only at hSW);go_simp;rw []) hHeld ?_
  refine tM 7 rfl (fun W hSW=>by (try dsimp only at hSW);go_simp;rw []) hHeld ?_
  refine tN (i:=8) (v:=undef) rfl (Or.inr ⟨by rfl,rfl⟩) hHeld ?_
  refine tN (i:=9) (v:=undef) rfl (Or.inr ⟨by rfl,rfl⟩) hHeld ?_
  refine tN (i:=10) (v:=undef) rfl (Or.inr ⟨by rfl,rfl⟩) hHeld ?_
  refine tN (i:=11) (v:=undef) rfl (Or.inr ⟨by rfl,rfl⟩) hHeld ?_
  refine tN (i:=12) (v:=undef) rfl (Or.inr ⟨by rfl,rfl⟩) hHeld ?_
  refine tN (i:=13) (v:=undef) rfl (Or.inr ⟨by rfl,rfl⟩) hHeld ?_
  refine tN (i:=14) (v:=undef) rfl (Or.inr ⟨by rfl,rfl⟩) hHeld ?_
  refine tN (i:=15) (v:=undef) rfl (Or.inr ⟨by rfl,rfl⟩) hHeld ?_
  refine tN (i:=16) (v:=undef) rfl (Or.inr ⟨by rfl,rfl⟩) hHeld ?_
  refine tM 17 rfl (fun W hSW=>by (try dsimp only at hSW);go_simp;rw []) hHeld ?_
  refine wpAnyH_done (by kernel_rfl) ?_ _
  have HKE:Hid (Nw w1 w1.drew):=(Kp.refl _ _).drew
  clear hHeld
  go_wp2
  refine wp_region_held_drew (S:=fun W=>Nw w1 W) (by kernel_rfl) (((Kp.refl _ _).drew).drew) (fun hHeld => ?_)
  refine tM 0 rfl (fun W hSW=>by (try dsimp only at hSW);go_simp;rw []) hHeld ?_
  refine tM 1 rfl (fun W hSW=>by (try dsimp only at hSW);go_simp;rw []) hHeld ?_
  refine tM 2 rfl (fun W hSW=>by (try dsimp only at hSW);go_simp;rw []) hHeld ?_
  refine tM 3 rfl (fun W hSW=>by (try dsimp only at hSW);go_simp;rw []) hHeld ?_
  refine tM 4 rfl (fun W hSW=>by (try dsimp only at hSW);go_simp;rw []) hHeld ?_
  refine tM 5 rfl (fun W hSW=>by (try dsimp only at hSW);go_simp;rw []) hHeld ?_
  refine tM 6 rfl (fun W hSW=>by (try dsimp only at hSW);go_simp;rw []) hHeld ?_
  refine tM 7 rfl (fun W hSW=>by (try dsimp only at hSW);go_simp;rw []) hHeld ?_
  refine tM 8 rfl (fun W hSW=>by (try dsimp only at hSW);go_simp;rw []) hHeld ?_
  refine tM 9 rfl (fun W hSW=>by (try dsimp only at hSW);go_simp;rw []) hHeld ?_
  refine wpAnyH_done (by kernel_rfl) ?_ _
  have c2:=(H.out.nw KW.out).c2
  have z2:=(H.out.nw KW.out).z
  clear hHeld s1 s2
  go_wp2
  go_end0
  exact OV.out _ (KW.out.drew.drew)
end Go.Proofs.YtcboiapggnmpfaaGreatDoor
