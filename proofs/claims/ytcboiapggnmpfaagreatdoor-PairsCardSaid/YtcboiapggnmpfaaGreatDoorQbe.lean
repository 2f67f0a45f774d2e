import Derived.Test.YtcboiapggnmpfaaGreatDoorQbd
namespace Go.Proofs.YtcboiapggnmpfaaGreatDoor
set_option maxRecDepth 100000
set_option maxHeartbeats 8000000
set_option linter.unusedSimpArgs false
set_option linter.unusedVariables false
open Go.RowKit
open Value (int slice)
open IntKind (i64)
theorem fold_set:∀(L:List Value) (k:Nat) (p m q:List Value),p.length=k→m.length=L.length→(L.zipIdx k).foldl (fun cs x=>cs.setIfInBounds x.2 x.1) (p++m++q).toArray=(p++L++q).toArray:=by
 intro L
 induction L with
 | nil=>intro k p m q hp hm;have:m=[]:=List.length_eq_zero_iff.1 hm;subst this;rfl
 | cons v r ih =>
  intro k p m q hp hm
  cases m with
  | nil=>simp at hm
  | cons y m =>
   have e1:(p++(y::m)++q).toArray.setIfInBounds k v=((p++[v])++m++q).toArray:=by
    subst hp;simp
   simp only [List.zipIdx_cons,List.foldl_cons]
   rw [e1,ih (k+1) (p++[v]) m q (by simp [hp]) (by simpa using hm)]
   simp
theorem fold_th {LT:List Value} (h:LT.length=27):LT.zipIdx.foldl (fun cs x=>cs.setIfInBounds x.2 x.1) #[int i64 0,int i64 0,int i64 0,int i64 0,int i64 0,int i64 0,int i64 0,int i64 0,int i64 0,int i64 0,int i64 0,int i64 0,int i64 0,int i64 0,int i64 0,int i64 0,int i64 0,int i64 0,int i64 0,int i64 0,int i64 0,int i64 0,int i64 0,int i64 0,int i64 0,int i64 0,int i64 0]=LT.toArray:=by
 have:=fold_set LT 0 [] (thC th0) [] rfl (by rw [thC_len,h])
 simp only [List.nil_append,List.append_nil] at this
 rw [zerosTh] at this
 exact this
theorem Tryz.unThs:Tryz.prog.underlying 81=some (.slice 129):=by kernel_rfl
theorem Tryz.infoThr:(Tryz.prog.info? 129).map (fun i=>(i.zero,i.size,i.bytes))=some (some (.agg #[int i64 0,int i64 0,int i64 0,int i64 0,int i64 0,int i64 0,int i64 0,int i64 0,int i64 0,int i64 0,int i64 0,int i64 0,int i64 0,int i64 0,int i64 0,int i64 0,int i64 0,int i64 0,int i64 0,int i64 0,int i64 0,int i64 0,int i64 0,int i64 0,int i64 0,int i64 0,int i64 0]),27,216):=by kernel_rfl
structure AdI (w:World) (R o base B:Nat) (v sv:Value) (l:List Thr) (LT:List Value) (wr:World):Prop where
 c0:wr.cell? ⟨R,o,none⟩=some sv
 own:wr.ownsRow base 129 27 sv l.length (thsC l)
 bx:wr.rangeAt B 0 LT
 kp:Kp (fun b=>b=R∨v.ownBlock=some b) w wr
 c:∀p,¬p=o→wr.cell? ⟨R,p,none⟩=w.cell? ⟨R,p,none⟩
 z:∀p,wr.frozen? ⟨R,p,none⟩=false
 ow:∀b,sv.ownBlock=some b→v.ownBlock=some b∨w.heap.size≤b
 ob:∀b,sv.ownBlock=some b→¬b=B∧¬b=R
theorem AdI.set {w:World} {R o base B g n cp:Nat} {v:Value} {a b:List Thr} {y:Thr} {LT:List Value} {wr:World} (hn:(a++y::b).length=n) (h:AdI w R o base B v (.slice (some ⟨g,0,none⟩) n cp) (a++y::b) LT wr) (u:Thr) :
  AdI w R o base B v (.slice (some ⟨g,0,none⟩) n cp) (a++u::b) LT (wr.setCells g (a.length*27) (thC u)):=by
 have kk:Kp (fun x=>x=g) wr (wr.setCells g (a.length*27) (thC u)):=kp_setCells _ _ _
 have hg:=h.ob g rfl
 have hRl:R<wr.heap.size:=World.block_lt_of_cell? wr ⟨R,o,none⟩ h.c0
 have ho:=h.own
 rw [hn] at ho
 have e2:(a++u::b).length=n:=by rw [←hn];simp
 refine ⟨?_,by rw [e2];exact owns_setT ho u,?_,h.kp.trans' kk ?_,?_,?_,h.ow,h.ob⟩
 ·rw [kk.cell (p:=⟨R,o,none⟩) hRl (fun e=>hg.2 e.symm)];exact h.c0
 ·intro j x hx
  by_cases hB:B<wr.heap.size
  ·rw [kk.cell (p:=⟨B,0+j,none⟩) hB (fun e=>hg.1 e.symm)];exact h.bx j x hx
  ·exact absurd (World.block_lt_of_cell? wr ⟨B,0+j,none⟩ (h.bx j x hx)) hB
 ·intro x hx e
  rcases h.ow g rfl with e2|e2
  ·subst e;exact Or.inr e2
  ·omega
 ·intro p hp
  rw [kk.cell (p:=⟨R,p,none⟩) hRl (fun e=>hg.2 e.symm)];exact h.c p hp
 ·intro p
  rw [kk.frozen (p:=⟨R,p,none⟩) hRl (fun e=>hg.2 e.symm)];exact h.z p
theorem AdI.drew {w:World} {R o base B:Nat} {v sv:Value} {l:List Thr} {LT:List Value} {wr:World} (h:AdI w R o base B v sv l LT wr):AdI w R o base B v sv l LT wr.drew:=⟨h.c0,h.own.drew,h.bx,h.kp.drew,h.c,h.z,h.ow,h.ob⟩
theorem add_in (R o base:Nat) (v:Value) (c:Crw) (t:Thr) (w:World) (h:CrM w R o base v c) (hN:c.l.length≤10000) (hok:∀u∈c.l,ThrOk u) (ht:ThrOk t) (hpl:¬c.l[plcT c.l t]? = some t) (hmo:¬c.most≤c.l.length) (hbs:base≤w.heap.size) :
  Calls Tryz.prog 113 #[.pointer (some ⟨R,o,none⟩),.agg (thC t).toArray] w (CrPost w R o base v ⟨c.l.take (plcT c.l t)++t::c.l.drop (plcT c.l t),c.most,c.over⟩):=by
 obtain ⟨dd,hu,hd⟩:=Option.map_eq_some_iff.1 Tryz.rowTh
 have HU:Hid (Tryz.prog.underlying 129=some dd):=hu
 have HD:Hid (dd.isRow=true):=hd
 have hle:plcT c.l t≤c.l.length:=plcT_le c.l t
 obtain ⟨gp,cc,rfl⟩:=ownsLenX h.own
 have H:Hid (CrM w R o base (.slice gp c.l.length cc) c):=h
 have HRL:Hid (R<w.heap.size):=h.rl
 have HPO:Hid (∀W,Nw w W→Calls Tryz.prog 121 #[.pointer (some ⟨R,o,none⟩),.agg (thC t).toArray] W (PlPost (plcT c.l t) W)):=fun W kW=>placeOf_any R o base _ c t W (h.nw kW) hN
 have HBX:Hid (∀W,Nw (w.alloc (.cells (thC t).toArray 129)) W→W.rangeAt w.heap.size 0 (thC t)):=fun W kW=>((Bx.new w (thC t) _).kp (by rw [thC_len];omega) kW (fun h=>h)).r
 have HK0:Hid (Nw w (w.alloc (.cells (thC t).toArray 129))):=(Kp.refl _ w).alloc _
 have HT:Hid (ThrOk t):=ht
 have HS:Hid (w.heap.size<(w.alloc (.cells (thC t).toArray 129)).heap.size):=by show _<_;simp
 have HI:Hid ((Tryz.prog.info? 129).map (·.size)=some (thC t).length):=size_th t
 have HEQ:Hid (∀(u:Thr),ThrOk u→¬u=t→∀(a:Act) (x y:Operand) (o:Oper) (ty:TypeId),o.op=.binOp .eql 129 x y ty→a.eval x=.agg (thC u).toArray→a.eval y=.agg (thC t).toArray→∀W,(execOp a.eval o).run Tryz.prog W=.ok (.value (.bool false)) W):=by
  intro u hu hne a x y o ty h1 h2 h3 W
  have:=exec_eql h1 h2 h3 hu HT.out W
  simpa [hne] using this
 have HOK:Hid (∀u∈c.l,ThrOk u):=hok
 have hca:(∃u,c.l[plcT c.l t]? = some u∧¬u=t)∨c.l.length≤plcT c.l t:=by
  by_cases hlt:plcT c.l t<c.l.length
  ·exact Or.inl ⟨_,List.getElem?_eq_getElem hlt,fun e=>hpl (by rw [List.getElem?_eq_getElem hlt,e])⟩
  ·exact Or.inr (by omega)
 have HTAIL:Hid (∀w1,Nw (w.alloc (.cells (thC t).toArray 129)) w1→∀w2,Nw w1 w2→True):=fun _ _ _ _=>trivial
 generalize plcT c.l t=pl at *
 obtain ⟨l,most,over⟩:=c
 simp only at *
 have hmo':decide (most≤(l.length:Int))=false:=by simpa using hmo
 clear hok hpl hmo
 have HLN:Hid ((thC t).length=27):=thC_len t
 have HONE:Hid (∀u∈thC t,u.oneCell'=true):=thC_one t
 clear hu hd h ht
 generalize hLT:thC t=LT at *
 have HLT:Hid (thC t=LT):=hLT
 clear hLT
 go_enter Tryz.func113,Tryz.ntmps113
 go_wp2_with (first
  | (with_reducible (show Go.wpList _ _ _ ({ dst:=_,op:=Op.load 129 _,type:=_,pos:=_,after:=_,guard:=_ }::_) _ _);refine wpList_load_mid rfl 129 _ rfl w.heap.size 0 rfl LT dd (HBX.out _ (Kp.refl _ _)) HU.out HD.out HI.out ?_)
  | fail)
 refine (HPO.out _ HK0.out).mono ?_
 rintro e1 w1 ⟨rfl,k1⟩
 have K1:Hid (Nw (w.alloc (.cells LT.toArray 129)) w1):=k1
 have KW:Hid (Nw w w1):=HK0.out.trans k1
 have hs1:w.heap.size<w1.heap.size:=Nat.lt_of_lt_of_le HS.out k1.size
 have hR1:R<w1.heap.size:=by have:=HRL.out;omega
 clear k1 HPO
 have s1:∀W,Nw w1 W→W.cell? ⟨R,o,none⟩=some (.slice gp l.length cc):=fun W kW=>(H.out.nw (KW.out.trans kW)).c0
 have s2:∀W,Nw w1 W→W.cell? ⟨R,o+1,none⟩=some (.int .i64 most):=fun W kW=>(H.out.nw (KW.out.trans kW)).c1
 go_wp2
 rcases hca with hca|hca
 ·obtain ⟨u,hu1,hu2⟩:=hca
  have hlt:pl<l.length:=(List.getElem?_eq_some_iff.1 hu1).1
  obtain ⟨g,cc',hgp⟩:=owns_some H.out.own (by show 0<l.length;omega)
  simp only [Value.slice.injEq,true_and] at hgp
  obtain ⟨rfl,rfl⟩:=hgp
  have HR:Hid (∀W,Nw w W→W.rangeAt g (pl*27) (thC u)):=fun W kW=>owns_rangeT (H.out.nw kW).own hu1
  have HNE:Hid (¬u=t):=hu2
  have HUK:Hid (ThrOk u):=HOK.out u (List.mem_of_getElem? hu1)
  clear hu1 hu2
  refine wp_region_held_drew (S:=fun W=>Nw w1 W) (by kernel_rfl) ((Kp.refl _ _).drew) (fun hHeld => ?_)
  refine tM 0 rfl (fun W hSW=>by (try dsimp only at hSW);go_simp;rw []) hHeld ?_
  refine tM 1 rfl (fun W hSW=>by (try dsimp only at hSW);go_simp;rw []) hHeld ?_
  refine tM 2 rfl (fun W hSW=>by (try dsimp only at hSW);go_simp;rw []) hHeld ?_
  refine tM 3 rfl (fun W hSW=>by (try dsimp only at hSW);go_simp;rw []) hHeld ?_
  refine tM 4 rfl (fun W hSW=>by (try dsimp only at hSW);go_simp;rw []) hHeld ?_
  refine tM 5 rfl (fun W hSW=>by (try dsimp only at hSW);go_simp;rw []) hHeld ?_
  refine tM 6 rfl (fun W hSW=>by (try dsimp only at hSW);go_simp;rw []) hHeld ?_
  refine tM 7 rfl (fun W hSW=>by (try dsimp only at hSW);go_simp;rw []) hHeld ?_
  refine tM 8 rfl (fun W hSW=>by (try dsimp only at hSW);go_simp;rw []) hHeld ?_
  refine tM 9 rfl (fun W hSW=>by (try dsimp only at hSW);go_simp;rw []) hHeld ?_
  refine tM 10 rfl (fun W hSW=>by (try dsimp only at hSW);go_simp;rw []) hHeld ?_
  refine tM 11 rfl (fun W hSW=>by (try dsimp only at hSW);go_simp;rw []) hHeld ?_
  refine tM 12 rfl (fun W hSW=>by (try dsimp only at hSW);go_simp;rw []) hHeld ?_
  refine tM 13 rfl (fun W hSW=>by (try dsimp only at hSW);go_simp;rw []) hHeld ?_
  refine tN (i:=14) (v:=_) rfl (yieldsIf_load_mid (by rfl) 129 _ rfl g (pl*27) rfl (thC u) dd (fun W kW=>HR.out W (KW.out.trans kW)) HU.out HD.out (size_th u)) hHeld ?_
  refine tN (i:=15) (v:=_) rfl (yieldsIf_load_mid (by rfl) 129 _ rfl w.heap.size (0) rfl LT dd (fun W kW=>HBX.out W (K1.out.trans kW)) HU.out HD.out HI.out) hHeld ?_
  refine tN (i:=16) (v:=(.bool false)) rfl (Or.inl ⟨by rfl,fun W hSW=>HEQ.out u HUK.out HNE.out _ _ _ _ _ rfl rfl rfl W⟩) hHeld ?_
  refine tM 17 rfl (fun W hSW=>by (try dsimp only at hSW);go_simp;rw []) hHeld ?_
  refine wpAnyH_done (by kernel_rfl) ?_ _
  have HKE:Hid (Nw w1 w1.drew):=(Kp.refl _ _).drew
  clear hHeld
  go_wp2
  refine wp_region_held_drew (S:=fun W=>Nw w1 W) (by kernel_rfl) (((Kp.refl _ _).drew).drew) (fun hHeld => ?_)
  refine tM 0 rfl (fun W hSW=>by (try dsimp only at hSW);go_simp;rw []) hHeld ?_
  refine tM 1 rfl (fun W hSW=>by (try dsimp only at hSW);go_simp;rw []) hHeld ?_
  refine tM 2 rfl (fun W hSW=>by (try dsimp only at hSW);go_simp;rw []) hHeld ?_
  refine tM 3 rfl (fun W hSW=>by (try dsimp only at hSW);go_simp;rw []) hHeld ?_
  refine tM 4 rfl (fun W hSW=>by (try dsimp only at hSW);go_simp;rw []) hHeld ?_
  refine tM 5 rfl (fun W hSW=>by (try dsimp only at hSW);go_simp;rw []) hHeld ?_
  refine tM 6 rfl (fun W hSW=>by (try dsimp only at hSW);go_simp;rw []) hHeld ?_
  refine tM 7 rfl (fun W hSW=>by (try dsimp only at hSW);go_simp;rw []) hHeld ?_
  refine tM 8 rfl (fun W hSW=>by (try dsimp only at hSW);go_simp;rw []) hHeld ?_
  refine tM 9 rfl (fun W hSW=>by (try dsimp only at hSW);go_simp;rw []) hHeld ?_
  refine wpAnyH_done (by kernel_rfl) ?_ _
  have HK2:Hid (Nw w1 w1.drew.drew):=((Kp.refl _ _).drew).drew
  have HTAIL2:=HTAIL.out _ K1.out _ HK2.out
  clear hHeld s1 s2
  go_wp2
  generalize w1.drew.drew=w2 at *
  have HKW2:Hid (Nw w w2):=KW.out.trans HK2.out
  have hc0:w2.cell? ⟨R,o,none⟩=some (.slice (some ⟨g,0,none⟩) l.length cc):=(H.out.nw HKW2.out).c0
  have hR2:R<w2.heap.size:=by have:=HK2.out.size;omega
  have hs2:w.heap.size<w2.heap.size:=by have:=HK2.out.size;omega
  have HO2:Hid (w2.ownsRow base 129 27 (.slice (some ⟨g,0,none⟩) l.length cc) l.length (thsC l)):=(H.out.nw HKW2.out).own
  have HB2:Hid (∀W,Nw w2 W→W.rangeAt w.heap.size 0 LT):=fun W kW=>HBX.out W (K1.out.trans (HK2.out.trans kW))
  clear K1 HK2 HTAIL2 hR1 hs1
  refine wp_region_held_drew (S:=fun W=>W.rangeAt w.heap.size 0 LT) (by kernel_rfl) (HB2.out _ ((Kp.refl _ _).drew)) (fun hHeld => ?_)
  refine tM 0 rfl (fun W hSW=>by (try dsimp only at hSW);go_simp;rw []) hHeld ?_
  refine tM 1 rfl (fun W hSW=>by (try dsimp only at hSW);go_simp;rw []) hHeld ?_
  refine tM 2 rfl (fun W hSW=>by (try dsimp only at hSW);go_simp;rw []) hHeld ?_
  refine tM 3 rfl (fun W hSW=>by (try dsimp only at hSW);go_simp;rw []) hHeld ?_
  refine tN (i:=5) (v:=_) rfl (yieldsIf_load_mid (by rfl) 129 _ rfl w.heap.size (0) rfl LT dd (fun W kW=>kW) HU.out HD.out HI.out) hHeld ?_
  obtain ⟨i0,hi,hz0,hz1,hz2⟩:=info_parts Tryz.infoThr
  have hLN:LT.length=27:=HLN.out
  have hfold:=fold_th hLN
  refine wpAnyH_ready (rs:=[4,6]) (by kernel_rfl) (by simp) ?_
  refine consL rfl (fun K hK => ?_) (consL rfl (fun K hK => ?_) AllReadyH.nil)
  ·go_simp
   refine hK.out _ _ hHeld (fun _ => ?_)
   clear hK K
   try simp only [Act.put,sA,sZ,sS]
   refine wpAnyH_ready (rs:=[6]) (by kernel_rfl) (by simp) ?_
   refine consL rfl (fun K hK => ?_) AllReadyH.nil
   go_simp
   refine hK.out _ _ (HB2.out _ (((Kp.refl _ _).alloc _).drew)) (fun hH2 => ?_)
   clear hK K hfold hLN
   refine wpAnyH_ready (rs:=[7]) (by kernel_rfl) (by simp) ?_
   refine consL rfl (fun K hK => ?_) AllReadyH.nil
   refine step_append_lies _ (by rfl) _ _ _ (by rfl) base 129 i0 (.agg #[int i64 0,int i64 0,int i64 0,int i64 0,int i64 0,int i64 0,int i64 0,int i64 0,int i64 0,int i64 0,int i64 0,int i64 0,int i64 0,int i64 0,int i64 0,int i64 0,int i64 0,int i64 0,int i64 0,int i64 0,int i64 0,int i64 0,int i64 0,int i64 0,int i64 0,int i64 0,int i64 0]) 27 216 Tryz.unThs hi hz0 hz1 hz2 rfl (by omega) (.slice (some ⟨g,0,none⟩) l.length cc) l.length (thsC l) (by rfl) ((HO2.out.alloc _).drew) ⟨w2.heap.size,0,none⟩ 1 1 LT (by rfl) (by rw [HLN.out]) ?_ HONE.out (by omega) (by unfold maxLen;omega) (by omega) (by simp;omega) (w2.heap.size+1) (by simp) ?_
   ·intro j u hu
    rw [Addr.add_mid]
    exact (Bx.new w2 LT 129).r j u hu
   intro g3 cap3 w3 hown3 hgrow hat hlt3
   have k3:Kp (fun b=>(slice (some ⟨g,0,none⟩) l.length cc).ownBlock=some b) w2 w3:=(((Kp.refl _ w2).alloc _).drew).grown hgrow (fun b hb=>Or.inr hb)
   have hRn:¬(slice (some ⟨g,0,none⟩) l.length cc).ownBlock=some R:=by intro e;have:=(H.out.own.lt R e).1;have:=H.out.lt;omega
   have hBn:¬(slice (some ⟨g,0,none⟩) l.length cc).ownBlock=some w.heap.size:=by intro e;have:=(H.out.own.lt w.heap.size e).2;omega
   have hB3:w3.rangeAt w.heap.size 0 LT:=range_kp (HB2.out _ (Kp.refl _ _)) hs2 k3 hBn
   have hc3:∀p,w3.cell? ⟨R,p,none⟩=w.cell? ⟨R,p,none⟩:=fun p=>(k3.cell (p:=⟨R,p,none⟩) hR2 hRn).trans (HKW2.out.cell (p:=⟨R,p,none⟩) HRL.out (fun h=>h))
   have hz3:∀p,w3.frozen? ⟨R,p,none⟩=false:=fun p=>((k3.frozen (p:=⟨R,p,none⟩) hR2 hRn).trans (HKW2.out.frozen (p:=⟨R,p,none⟩) HRL.out (fun h=>h))).trans (H.out.z p)
   have hg3:¬g3=R∧¬g3=w.heap.size∧((slice (some ⟨g,0,none⟩) l.length cc).ownBlock=some g3∨w.heap.size≤g3):=by
    rcases hat with e|e
    ·exact ⟨fun e2=>hRn (by rw [←e2];exact e),fun e2=>hBn (by rw [←e2];exact e),Or.inl e⟩
    ·exact ⟨by omega,by omega,Or.inr (by omega)⟩
   have KW3:Hid (Kp (fun b=>b=R∨(slice (some ⟨g,0,none⟩) l.length cc).ownBlock=some b) w w3):=(HKW2.out.mono (fun _ _ h=>h.elim)).trans' k3 (fun b _ e=>Or.inr e)
   have HAD:Hid (AdI w R o base w.heap.size (.slice (some ⟨g,0,none⟩) l.length cc) (.slice (some ⟨g3,0,none⟩) (l.length+1) cap3) (l++[t]) LT (w3.setCell ⟨R,o,none⟩ (.slice (some ⟨g3,0,none⟩) (l.length+1) cap3))):=by
    have kk:Kp (fun b=>b=R) w3 (w3.setCell ⟨R,o,none⟩ (.slice (some ⟨g3,0,none⟩) (l.length+1) cap3)):=(Kp.refl (fun b=>b=R) w3).setCell (p:=⟨R,o,none⟩) (Or.inr rfl) _
    have hR3:R<w3.heap.size:=Nat.lt_of_lt_of_le hR2 k3.size
    have hB3l:w.heap.size<w3.heap.size:=Nat.lt_of_lt_of_le hs2 k3.size
    have hcc:=(hc3 o).trans H.out.c0
    refine ⟨by simp [go_sem,hcc,hz3],?_,range_kp hB3 hB3l kk (by have:=HRL.out;omega),KW3.out.trans' kk (fun b _ e=>Or.inl e),?_,?_,?_,?_⟩
    ·have e1:(l++[t]).length=l.length+1:=by simp
     have e2:thsC (l++[t])=thsC l++LT:=by rw [thsC_app,←HLT.out];simp [thsC]
     rw [e1,e2]
     exact owns_kp hown3 kk (by intro b hb e;simp [Value.ownBlock] at hb;have:=hg3.1;omega)
    ·intro p hp
     have hp':¬o=p:=fun e=>hp e.symm
     rw [←hc3 p]
     simp [go_sem,hp,hp']
    ·intro p;rw [←hz3 p];simp [go_sem]
    ·intro b hb;simp only [Value.ownBlock,Option.some.injEq] at hb;subst hb;exact hg3.2.2
    ·intro b hb;simp only [Value.ownBlock,Option.some.injEq] at hb;subst hb;exact ⟨hg3.2.1,hg3.1⟩
   have hc3o:=(hc3 o).trans H.out.c0
   have hR3:R<w3.heap.size:=Nat.lt_of_lt_of_le hR2 k3.size
   refine hK.out _ _ hB3 (fun hH3 => ?_)
   clear hK K hown3 hgrow hat k3 hc3
   try simp only [Act.put,sA,sZ,sS]
   refine tM 8 rfl (fun W hSW=>by (try dsimp only at hSW);go_simp;rw []) hH3 ?_
   refine tM 9 rfl (fun W hSW=>by (try dsimp only at hSW);go_simp;rw []) hH3 ?_
   refine wpAnyH_ready (rs:=[10]) (by kernel_rfl) (by simp) ?_
   refine consL rfl (fun K hK => ?_) AllReadyH.nil
   go_simp
   refine hK.out _ _ HAD.out.bx (fun _ => ?_)
   clear hK K
   try simp only [Act.put,sA,sZ,sS]
   refine wpAnyH_done (by kernel_rfl) ?_ _
   generalize w3.setCell ⟨R,o,none⟩ (.slice (some ⟨g3,0,none⟩) (l.length+1) cap3)=w4 at *
   have hc4:=HAD.out.c0
   clear hH2 hH3 hc3o hz3 hHeld hB3 hlt3 HO2 HB2 hc0
   go_wp2
   go_loopg [5] (l.length - pl) (fun m v5 wr=>∃(i:Nat) (y:Thr),v5=.int .i64 i∧m=i - pl∧pl≤i∧i≤l.length∧AdI w R o base w.heap.size (.slice (some ⟨g,0,none⟩) l.length cc) (.slice (some ⟨g3,0,none⟩) (l.length+1) cap3) (l.take i++y::l.drop i) LT wr)
   case atStart=>exact ⟨l.length,t,by simp,rfl,hle,Nat.le_refl _,by simpa using HAD.out⟩
   case round =>
    obtain ⟨i,y,rfl,hm,hpi,hil,hA⟩:=hrel
    have HM:Hid (_=i - pl):=hm
    have HA:Hid (AdI w R o base w.heap.size (.slice (some ⟨g,0,none⟩) l.length cc) (.slice (some ⟨g3,0,none⟩) (l.length+1) cap3) (l.take i++y::l.drop i) LT wr):=hA
    have HLI:Hid ((l.take i++y::l.drop i).length=l.length+1):=by show _=_;simp;omega
    have hgr:g3<wr.heap.size:=(hA.own.lt g3 rfl).2
    have hRr:R<wr.heap.size:=World.block_lt_of_cell? wr ⟨R,o,none⟩ hA.c0
    clear hm hA HAD hc4
    by_cases hlt:pl<i
    ·obtain ⟨j,rfl⟩:∃j,i=j+1:=⟨i - 1,by omega⟩
     obtain ⟨x,hx⟩:∃x,l[j]? = some x:=⟨_,List.getElem?_eq_getElem (by omega)⟩
     have hxx:(l.take (j+1)++y::l.drop (j+1))[j]? = some x:=by
      rw [List.getElem?_append_left (by simp;omega),List.getElem?_take];simp [hx]
     have HRG:Hid (wr.rangeAt g3 (j*27) (thC x)):=owns_rangeT (by have:=HA.out.own;rw [HLI.out] at this;exact this) hxx
     have HNX:Hid (AdI w R o base w.heap.size (.slice (some ⟨g,0,none⟩) l.length cc) (.slice (some ⟨g3,0,none⟩) (l.length+1) cap3) (l.take j++x::l.drop j) LT (wr.drew.setCells g3 ((j+1)*27) (thC x))):=by
      have:=HA.out.drew.set HLI.out x
      have e1:(l.take (j+1)).length=j+1:=by simp;omega
      have e2:l.take (j+1)++x::l.drop (j+1)=l.take j++x::l.drop j:=by
       rw [List.take_add_one,hx]
       have:l.drop j=x::l.drop (j+1):=by
        obtain ⟨h1,h2⟩:=List.getElem?_eq_some_iff.1 hx
        rw [←h2,List.getElem_cons_drop]
       rw [this];simp
      rw [e1,e2] at this
      exact this
     have HTH:Hid (wr.there g3 ((j+1)*27) (thC x).toArray.size):=by
      intro k hk
      have hk':k<27:=by rwa [List.size_toArray,thC_len] at hk
      have hr:wr.rangeAt g3 ((j+1)*27) (thC y):=owns_rangeT (by have:=HA.out.own;rw [HLI.out] at this;exact this) (by rw [List.getElem?_append_right (by simp;omega)];simp;rw [show j+1 - min (j+1) l.length=0 by omega];rfl)
      refine ⟨?_,?_⟩
      ·rw [hr k _ (List.getElem?_eq_getElem (by rw [thC_len];exact hk'))];rfl
      ·have:=HA.out.own;rw [HLI.out] at this;exact this.frozenAt _
     have hj1:(j:Int)<(l.length:Int)+1:=by omega
     have hj3:(j:Int)+1<(l.length:Int)+1:=by omega
     have hj4:j<l.length:=by omega
     have hj5:(0:Int)≤(j:Int)+1:=by omega
     have hwj:IntKind.i64.wrap (j:Int)=(j:Int):=IntWalk.i64_in _ (by omega)
     have hj2:j+1<l.length+1:=by omega
     have hc5:=HA.out.c0
     have HSS:Hid (∀W,Nw wr W→W.cell? ⟨R,o,none⟩=some (.slice (some ⟨g3,0,none⟩) (l.length+1) cap3)∧W.rangeAt g3 (j*27) (thC x)):=fun W kW=>⟨(kW.cell (p:=⟨R,o,none⟩) hRr (fun h=>h)).trans HA.out.c0,range_kp HRG.out hgr kW (fun h=>h)⟩
     have HSE:Hid ((wr.drew.setCells g3 ((j+1)*27) (thC x)).cell? ⟨R,o,none⟩=some (.slice (some ⟨g3,0,none⟩) (l.length+1) cap3)∧(wr.drew.setCells g3 ((j+1)*27) (thC x)).rangeAt g3 (j*27) (thC x)):=⟨HNX.out.c0,World.rangeAt_setCells_apart (w:=wr.drew) HRG.out g3 _ _ (Or.inr (Or.inl (by rw [thC_len];omega)))⟩
     clear hx hxx
     generalize thC_g:thC x=LX at *
     have HONX:Hid (∀v∈LX,v.oneCell'=true):=by rw [←thC_g];exact thC_one x
     have HSX:Hid ((Tryz.prog.info? 129).map (·.size)=some LX.length):=by rw [←thC_g];exact size_th x
     have HSXA:Hid ((Tryz.prog.info? 129).map (·.size)=some LX.toArray.size):=by rw [←thC_g];exact size_thA x
     clear thC_g
     go_wp2
     refine wp_region_held_drew (S:=fun W=>W.cell? ⟨R,o,none⟩=some (.slice (some ⟨g3,0,none⟩) (l.length+1) cap3)∧W.rangeAt g3 (j*27) LX) (by kernel_rfl) (HSS.out _ ((Kp.refl _ _).drew)) (fun hHeld => ?_)
     refine tM 0 rfl (fun W hSW=>by (try dsimp only at hSW);go_simp;rw []) hHeld ?_
     refine tM 1 rfl (fun W hSW=>by (try dsimp only at hSW);go_simp;rw []) hHeld ?_
     refine tM 2 rfl (fun W hSW=>by (try dsimp only at hSW);go_simp;rw []) hHeld ?_
     refine tM 3 rfl (fun W hSW=>by (try dsimp only at hSW);go_simp;rw []) hHeld ?_
     refine tM 4 rfl (fun W hSW=>by (try dsimp only at hSW);go_simp;rw []) hHeld ?_
     refine tM 5 rfl (fun W hSW=>by (try dsimp only at hSW);go_simp;rw []) hHeld ?_
     refine tM 6 rfl (fun W hSW=>by (try dsimp only at hSW);go_simp;rw []) hHeld ?_
     refine tM 7 rfl (fun W hSW=>by (try dsimp only at hSW);go_simp;rw []) hHeld ?_
     refine tM 8 rfl (fun W hSW=>by (try dsimp only at hSW);go_simp;rw []) hHeld ?_
     refine tM 9 rfl (fun W hSW=>by (try dsimp only at hSW);go_simp;rw []) hHeld ?_
     refine tM 10 rfl (fun W hSW=>by (try dsimp only at hSW);go_simp;rw []) hHeld ?_
     refine tM 11 rfl (fun W hSW=>by (try dsimp only at hSW);go_simp;rw []) hHeld ?_
     refine tN (i:=12) (v:=_) rfl (yieldsIf_load_mid (by rfl) 129 _ rfl g3 (j*27) rfl LX dd (fun W h=>h.2) HU.out HD.out HSX.out) hHeld ?_
     refine tM 13 rfl (fun W hSW=>by (try dsimp only at hSW);go_simp;rw []) hHeld ?_
     refine wpAnyH_ready (rs:=[14]) (by kernel_rfl) (by simp) ?_
     refine consL rfl (fun K hK => ?_) AllReadyH.nil
     rw [if_pos (by rfl)]
     refine wp_store_mid 129 _ _ rfl g3 ((j+1)*27) LX.toArray rfl rfl ?_ HSXA.out (all_oneCell_toArray HONX.out) ?_
     ·exact HTH.out
     refine hK.out _ _ HSE.out (fun _ => ?_)
     clear hK K
     try simp only [Act.put,sA,sZ,sS]
     refine wpAnyH_done (by kernel_rfl) ?_ _
     generalize wr.drew.setCells g3 ((j+1)*27) LX=wn at *
     go_wp2
     go_roundg (j - pl)
     case measure=>rw [HM.out];omega
     case rel=>exact ⟨j,x,by simp,rfl,by omega,by omega,HNX.out⟩
    ·have hie:i=pl:=by omega
     subst hie
     have HNX:Hid (AdI w R o base w.heap.size (.slice (some ⟨g,0,none⟩) l.length cc) (.slice (some ⟨g3,0,none⟩) (l.length+1) cap3) (l.take i++t::l.drop i) LT (wr.drew.setCells g3 (i*27) (thC t))):=by
      have:=HA.out.drew.set HLI.out t
      have e1:(l.take i).length=i:=by simp;omega
      rw [e1] at this
      exact this
     have HTH:Hid (wr.there g3 (i*27) (thC t).toArray.size):=by
      intro k hk
      have hk':k<27:=by rwa [List.size_toArray,thC_len] at hk
      have hr:wr.rangeAt g3 (i*27) (thC y):=owns_rangeT (by have:=HA.out.own;rw [HLI.out] at this;exact this) (by rw [List.getElem?_append_right (by simp;omega)];simp;rw [show i - min i l.length=0 by omega];rfl)
      refine ⟨?_,?_⟩
      ·rw [hr k _ (List.getElem?_eq_getElem (by rw [thC_len];exact hk'))];rfl
      ·have:=HA.out.own;rw [HLI.out] at this;exact this.frozenAt _
     have hj1:(i:Int)<(l.length:Int)+1:=by omega
     have hwj:IntKind.i64.wrap (i:Int)=(i:Int):=IntWalk.i64_in _ (by omega)
     have hBr:w.heap.size<wr.heap.size:=range_lt HA.out.bx (by rw [HLN.out];omega)
     have HSS:Hid (∀W,Nw wr W→W.cell? ⟨R,o,none⟩=some (.slice (some ⟨g3,0,none⟩) (l.length+1) cap3)∧W.rangeAt w.heap.size 0 LT):=fun W kW=>⟨(kW.cell (p:=⟨R,o,none⟩) hRr (fun h=>h)).trans HA.out.c0,range_kp HA.out.bx hBr kW (fun h=>h)⟩
     have HSE:Hid ((wr.drew.setCells g3 (i*27) (thC t)).cell? ⟨R,o,none⟩=some (.slice (some ⟨g3,0,none⟩) (l.length+1) cap3)∧(wr.drew.setCells g3 (i*27) (thC t)).rangeAt w.heap.size 0 LT):=⟨HNX.out.c0,HNX.out.bx⟩
     have HSXA:Hid ((Tryz.prog.info? 129).map (·.size)=some (thC t).toArray.size):=size_thA t
     rw [HLT.out] at HNX HTH HSE HSXA
     have HFIN:Hid (CrPost w R o base (.slice (some ⟨g,0,none⟩) l.length cc) ⟨l.take i++t::l.drop i,most,over⟩ (.returned (.tuple #[])) (wr.drew.setCells g3 (i*27) LT)):=by
      have hh:=HNX.out
      have hn2:(l.take i++t::l.drop i).length=l.length+1:=by simp;omega
      refine ⟨rfl,(.slice (some ⟨g3,0,none⟩) (l.length+1) cap3),⟨hh.c0,?_,?_,hh.z,hh.own,H.out.lt⟩,⟨hh.kp,?_,hh.ow⟩⟩
      ·exact (hh.c (o+1) (by omega)).trans H.out.c1
      ·exact (hh.c (o+2) (by omega)).trans H.out.c2
      ·intro p hp1 hp2;exact hh.c p hp1
     go_wp2
     refine wp_region_held_drew (S:=fun W=>W.cell? ⟨R,o,none⟩=some (.slice (some ⟨g3,0,none⟩) (l.length+1) cap3)∧W.rangeAt w.heap.size 0 LT) (by kernel_rfl) (HSS.out _ ((Kp.refl _ _).drew)) (fun hHeld => ?_)
     refine tM 0 rfl (fun W hSW=>by (try dsimp only at hSW);go_simp;rw []) hHeld ?_
     refine tM 1 rfl (fun W hSW=>by (try dsimp only at hSW);go_simp;rw []) hHeld ?_
     refine tM 2 rfl (fun W hSW=>by (try dsimp only at hSW);go_simp;rw []) hHeld ?_
     refine tM 3 rfl (fun W hSW=>by (try dsimp only at hSW);go_simp;rw []) hHeld ?_
     refine tM 4 rfl (fun W hSW=>by (try dsimp only at hSW);go_simp;rw []) hHeld ?_
     refine tN (i:=5) (v:=_) rfl (yieldsIf_load_mid (by rfl) 129 _ rfl w.heap.size (0) rfl LT dd (fun W h=>h.2) HU.out HD.out HI.out) hHeld ?_
     refine tM 6 rfl (fun W hSW=>by (try dsimp only at hSW);go_simp;rw []) hHeld ?_
     refine wpAnyH_ready (rs:=[7]) (by kernel_rfl) (by simp) ?_
     refine consL rfl (fun K hK => ?_) AllReadyH.nil
     rw [if_pos (by rfl)]
     refine wp_store_mid 129 _ _ rfl g3 (i*27) LT.toArray rfl rfl ?_ HSXA.out (all_oneCell_toArray HONE.out) ?_
     ·exact HTH.out
     refine hK.out _ _ HSE.out (fun _ => ?_)
     clear hK K
     try simp only [Act.put,sA,sZ,sS]
     refine wpAnyH_done (by kernel_rfl) ?_ _
     go_wp2
     go_end0
     exact HFIN.out
  ·go_simp
   refine hK.out _ _ (HB2.out _ (((Kp.refl _ _).alloc _).drew)) (fun hH2 => ?_)
   clear hK K hfold hLN
   refine wpAnyH_ready (rs:=[4]) (by kernel_rfl) (by simp) ?_
   refine consL rfl (fun K hK => ?_) AllReadyH.nil
   go_simp
   refine hK.out _ _ hH2 (fun _ => ?_)
   clear hK K
   try simp only [Act.put,sA,sZ,sS]
   refine wpAnyH_ready (rs:=[7]) (by kernel_rfl) (by simp) ?_
   refine consL rfl (fun K hK => ?_) AllReadyH.nil
   refine step_append_lies _ (by rfl) _ _ _ (by rfl) base 129 i0 (.agg #[int i64 0,int i64 0,int i64 0,int i64 0,int i64 0,int i64 0,int i64 0,int i64 0,int i64 0,int i64 0,int i64 0,int i64 0,int i64 0,int i64 0,int i64 0,int i64 0,int i64 0,int i64 0,int i64 0,int i64 0,int i64 0,int i64 0,int i64 0,int i64 0,int i64 0,int i64 0,int i64 0]) 27 216 Tryz.unThs hi hz0 hz1 hz2 rfl (by omega) (.slice (some ⟨g,0,none⟩) l.length cc) l.length (thsC l) (by rfl) ((HO2.out.alloc _).drew) ⟨w2.heap.size,0,none⟩ 1 1 LT (by rfl) (by rw [HLN.out]) ?_ HONE.out (by omega) (by unfold maxLen;omega) (by omega) (by simp;omega) (w2.heap.size+1) (by simp) ?_
   ·intro j u hu
    rw [Addr.add_mid]
    exact (Bx.new w2 LT 129).r j u hu
   intro g3 cap3 w3 hown3 hgrow hat hlt3
   have k3:Kp (fun b=>(slice (some ⟨g,0,none⟩) l.length cc).ownBlock=some b) w2 w3:=(((Kp.refl _ w2).alloc _).drew).grown hgrow (fun b hb=>Or.inr hb)
   have hRn:¬(slice (some ⟨g,0,none⟩) l.length cc).ownBlock=some R:=by intro e;have:=(H.out.own.lt R e).1;have:=H.out.lt;omega
   have hBn:¬(slice (some ⟨g,0,none⟩) l.length cc).ownBlock=some w.heap.size:=by intro e;have:=(H.out.own.lt w.heap.size e).2;omega
   have hB3:w3.rangeAt w.heap.size 0 LT:=range_kp (HB2.out _ (Kp.refl _ _)) hs2 k3 hBn
   have hc3:∀p,w3.cell? ⟨R,p,none⟩=w.cell? ⟨R,p,none⟩:=fun p=>(k3.cell (p:=⟨R,p,none⟩) hR2 hRn).trans (HKW2.out.cell (p:=⟨R,p,none⟩) HRL.out (fun h=>h))
   have hz3:∀p,w3.frozen? ⟨R,p,none⟩=false:=fun p=>((k3.frozen (p:=⟨R,p,none⟩) hR2 hRn).trans (HKW2.out.frozen (p:=⟨R,p,none⟩) HRL.out (fun h=>h))).trans (H.out.z p)
   have hg3:¬g3=R∧¬g3=w.heap.size∧((slice (some ⟨g,0,none⟩) l.length cc).ownBlock=some g3∨w.heap.size≤g3):=by
    rcases hat with e|e
    ·exact ⟨fun e2=>hRn (by rw [←e2];exact e),fun e2=>hBn (by rw [←e2];exact e),Or.inl e⟩
    ·exact ⟨by omega,by omega,Or.inr (by omega)⟩
   have KW3:Hid (Kp (fun b=>b=R∨(slice (some ⟨g,0,none⟩) l.length cc).ownBlock=some b) w w3):=(HKW2.out.mono (fun _ _ h=>h.elim)).trans' k3 (fun b _ e=>Or.inr e)
   have HAD:Hid (AdI w R o base w.heap.size (.slice (some ⟨g,0,none⟩) l.length cc) (.slice (some ⟨g3,0,none⟩) (l.length+1) cap3) (l++[t]) LT (w3.setCell ⟨R,o,none⟩ (.slice (some ⟨g3,0,none⟩) (l.length+1) cap3))):=by
    have kk:Kp (fun b=>b=R) w3 (w3.setCell ⟨R,o,none⟩ (.slice (some ⟨g3,0,none⟩) (l.length+1) cap3)):=(Kp.refl (fun b=>b=R) w3).setCell (p:=⟨R,o,none⟩) (Or.inr rfl) _
    have hR3:R<w3.heap.size:=Nat.lt_of_lt_of_le hR2 k3.size
    have hB3l:w.heap.size<w3.heap.size:=Nat.lt_of_lt_of_le hs2 k3.size
    have hcc:=(hc3 o).trans H.out.c0
    refine ⟨by simp [go_sem,hcc,hz3],?_,range_kp hB3 hB3l kk (by have:=HRL.out;omega),KW3.out.trans' kk (fun b _ e=>Or.inl e),?_,?_,?_,?_⟩
    ·have e1:(l++[t]).length=l.length+1:=by simp
     have e2:thsC (l++[t])=thsC l++LT:=by rw [thsC_app,←HLT.out];simp [thsC]
     rw [e1,e2]
     exact owns_kp hown3 kk (by intro b hb e;simp [Value.ownBlock] at hb;have:=hg3.1;omega)
    ·intro p hp
     have hp':¬o=p:=fun e=>hp e.symm
     rw [←hc3 p]
     simp [go_sem,hp,hp']
    ·intro p;rw [←hz3 p];simp [go_sem]
    ·intro b hb;simp only [Value.ownBlock,Option.some.injEq] at hb;subst hb;exact hg3.2.2
    ·intro b hb;simp only [Value.ownBlock,Option.some.injEq] at hb;subst hb;exact ⟨hg3.2.1,hg3.1⟩
   have hc3o:=(hc3 o).trans H.out.c0
   have hR3:R<w3.heap.size:=Nat.lt_of_lt_of_le hR2 k3.size
   refine hK.out _ _ hB3 (fun hH3 => ?_)
   clear hK K hown3 hgrow hat k3 hc3
   try simp only [Act.put,sA,sZ,sS]
   refine tM 8 rfl (fun W hSW=>by (try dsimp only at hSW);go_simp;rw []) hH3 ?_
   refine tM 9 rfl (fun W hSW=>by (try dsimp only at hSW);go_simp;rw []) hH3 ?_
   refine wpAnyH_ready (rs:=[10]) (by kernel_rfl) (by simp) ?_
   refine consL rfl (fun K hK => ?_) AllReadyH.nil
   go_simp
   refine hK.out _ _ HAD.out.bx (fun _ => ?_)
   clear hK K
   try simp only [Act.put,sA,sZ,sS]
   refine wpAnyH_done (by kernel_rfl) ?_ _
   generalize w3.setCell ⟨R,o,none⟩ (.slice (some ⟨g3,0,none⟩) (l.length+1) cap3)=w4 at *
   have hc4:=HAD.out.c0
   clear hH2 hH3 hc3o hz3 hHeld hB3 hlt3 HO2 HB2 hc0
   go_wp2
   go_loopg [5] (l.length - pl) (fun m v5 wr=>∃(i:Nat) (y:Thr),v5=.int .i64 i∧m=i - pl∧pl≤i∧i≤l.length∧AdI w R o base w.heap.size (.slice (some ⟨g,0,none⟩) l.length cc) (.slice (some ⟨g3,0,none⟩) (l.length+1) cap3) (l.take i++y::l.drop i) LT wr)
   case atStart=>exact ⟨l.length,t,by simp,rfl,hle,Nat.le_refl _,by simpa using HAD.out⟩
   case round =>
    obtain ⟨i,y,rfl,hm,hpi,hil,hA⟩:=hrel
    have HM:Hid (_=i - pl):=hm
    have HA:Hid (AdI w R o base w.heap.size (.slice (some ⟨g,0,none⟩) l.length cc) (.slice (some ⟨g3,0,none⟩) (l.length+1) cap3) (l.take i++y::l.drop i) LT wr):=hA
    have HLI:Hid ((l.take i++y::l.drop i).length=l.length+1):=by show _=_;simp;omega
    have hgr:g3<wr.heap.size:=(hA.own.lt g3 rfl).2
    have hRr:R<wr.heap.size:=World.block_lt_of_cell? wr ⟨R,o,none⟩ hA.c0
    clear hm hA HAD hc4
    by_cases hlt:pl<i
    ·obtain ⟨j,rfl⟩:∃j,i=j+1:=⟨i - 1,by omega⟩
     obtain ⟨x,hx⟩:∃x,l[j]? = some x:=⟨_,List.getElem?_eq_getElem (by omega)⟩
     have hxx:(l.take (j+1)++y::l.drop (j+1))[j]? = some x:=by
      rw [List.getElem?_append_left (by simp;omega),List.getElem?_take];simp [hx]
     have HRG:Hid (wr.rangeAt g3 (j*27) (thC x)):=owns_rangeT (by have:=HA.out.own;rw [HLI.out] at this;exact this) hxx
     have HNX:Hid (AdI w R o base w.heap.size (.slice (some ⟨g,0,none⟩) l.length cc) (.slice (some ⟨g3,0,none⟩) (l.length+1) cap3) (l.take j++x::l.drop j) LT (wr.drew.setCells g3 ((j+1)*27) (thC x))):=by
      have:=HA.out.drew.set HLI.out x
      have e1:(l.take (j+1)).length=j+1:=by simp;omega
      have e2:l.take (j+1)++x::l.drop (j+1)=l.take j++x::l.drop j:=by
       rw [List.take_add_one,hx]
       have:l.drop j=x::l.drop (j+1):=by
        obtain ⟨h1,h2⟩:=List.getElem?_eq_some_iff.1 hx
        rw [←h2,List.getElem_cons_drop]
       rw [this];simp
      rw [e1,e2] at this
      exact this
     have HTH:Hid (wr.there g3 ((j+1)*27) (thC x).toArray.size):=by
      intro k hk
      have hk':k<27:=by rwa [List.size_toArray,thC_len] at hk
      have hr:wr.rangeAt g3 ((j+1)*27) (thC y):=owns_rangeT (by have:=HA.out.own;rw [HLI.out] at this;exact this) (by rw [List.getElem?_append_right (by simp;omega)];simp;rw [show j+1 - min (j+1) l.length=0 by omega];rfl)
      refine ⟨?_,?_⟩
      ·rw [hr k _ (List.getElem?_eq_getElem (by rw [thC_len];exact hk'))];rfl
      ·have:=HA.out.own;rw [HLI.out] at this;exact this.frozenAt _
     have hj1:(j:Int)<(l.length:Int)+1:=by omega
     have hj3:(j:Int)+1<(l.length:Int)+1:=by omega
     have hj4:j<l.length:=by omega
     have hj5:(0:Int)≤(j:Int)+1:=by omega
     have hwj:IntKind.i64.wrap (j:Int)=(j:Int):=IntWalk.i64_in _ (by omega)
     have hj2:j+1<l.length+1:=by omega
     have hc5:=HA.out.c0
     have HSS:Hid (∀W,Nw wr W→W.cell? ⟨R,o,none⟩=some (.slice (some ⟨g3,0,none⟩) (l.length+1) cap3)∧W.rangeAt g3 (j*27) (thC x)):=fun W kW=>⟨(kW.cell (p:=⟨R,o,none⟩) hRr (fun h=>h)).trans HA.out.c0,range_kp HRG.out hgr kW (fun h=>h)⟩
     have HSE:Hid ((wr.drew.setCells g3 ((j+1)*27) (thC x)).cell? ⟨R,o,none⟩=some (.slice (some ⟨g3,0,none⟩) (l.length+1) cap3)∧(wr.drew.setCells g3 ((j+1)*27) (thC x)).rangeAt g3 (j*27) (thC x)):=⟨HNX.out.c0,World.rangeAt_setCells_apart (w:=wr.drew) HRG.out g3 _ _ (Or.inr (Or.inl (by rw [thC_len];omega)))⟩
     clear hx hxx
     generalize thC_g:thC x=LX at *
     have HONX:Hid (∀v∈LX,v.oneCell'=true):=by rw [←thC_g];exact thC_one x
     have HSX:Hid ((Tryz.prog.info? 129).map (·.size)=some LX.length):=by rw [←thC_g];exact size_th x
     have HSXA:Hid ((Tryz.prog.info? 129).map (·.size)=some LX.toArray.size):=by rw [←thC_g];exact size_thA x
     clear thC_g
     go_wp2
     refine wp_region_held_drew (S:=fun W=>W.cell? ⟨R,o,none⟩=some (.slice (some ⟨g3,0,none⟩) (l.length+1) cap3)∧W.rangeAt g3 (j*27) LX) (by kernel_rfl) (HSS.out _ ((Kp.refl _ _).drew)) (fun hHeld => ?_)
     refine tM 0 rfl (fun W hSW=>by (try dsimp only at hSW);go_simp;rw []) hHeld ?_
     refine tM 1 rfl (fun W hSW=>by (try dsimp only at hSW);go_simp;rw []) hHeld ?_
     refine tM 2 rfl (fun W hSW=>by (try dsimp only at hSW);go_simp;rw []) hHeld ?_
     refine tM 3 rfl (fun W hSW=>by (try dsimp only at hSW);go_simp;rw []) hHeld ?_
     refine tM 4 rfl (fun W hSW=>by (try dsimp only at hSW);go_simp;rw []) hHeld ?_
     refine tM 5 rfl (fun W hSW=>by (try dsimp only at hSW);go_simp;rw []) hHeld ?_
     refine tM 6 rfl (fun W hSW=>by (try dsimp only at hSW);go_simp;rw []) hHeld ?_
     refine tM 7 rfl (fun W hSW=>by (try dsimp only at hSW);go_simp;rw []) hHeld ?_
     refine tM 8 rfl (fun W hSW=>by (try dsimp only at hSW);go_simp;rw []) hHeld ?_
     refine tM 9 rfl (fun W hSW=>by (try dsimp only at hSW);go_simp;rw []) hHeld ?_
     refine tM 10 rfl (fun W hSW=>by (try dsimp only at hSW);go_simp;rw []) hHeld ?_
     refine tM 11 rfl (fun W hSW=>by (try dsimp only at hSW);go_simp;rw []) hHeld ?_
     refine tN (i:=12) (v:=_) rfl (yieldsIf_load_mid (by rfl) 129 _ rfl g3 (j*27) rfl LX dd (fun W h=>h.2) HU.out HD.out HSX.out) hHeld ?_
     refine tM 13 rfl (fun W hSW=>by (try dsimp only at hSW);go_simp;rw []) hHeld ?_
     refine wpAnyH_ready (rs:=[14]) (by kernel_rfl) (by simp) ?_
     refine consL rfl (fun K hK => ?_) AllReadyH.nil
     rw [if_pos (by rfl)]
     refine wp_store_mid 129 _ _ rfl g3 ((j+1)*27) LX.toArray rfl rfl ?_ HSXA.out (all_oneCell_toArray HONX.out) ?_
     ·exact HTH.out
     refine hK.out _ _ HSE.out (fun _ => ?_)
     clear hK K
     try simp only [Act.put,sA,sZ,sS]
     refine wpAnyH_done (by kernel_rfl) ?_ _
     generalize wr.drew.setCells g3 ((j+1)*27) LX=wn at *
     go_wp2
     go_roundg (j - pl)
     case measure=>rw [HM.out];omega
     case rel=>exact ⟨j,x,by simp,rfl,by omega,by omega,HNX.out⟩
    ·have hie:i=pl:=by omega
     subst hie
     have HNX:Hid (AdI w R o base w.heap.size (.slice (some ⟨g,0,none⟩) l.length cc) (.slice (some ⟨g3,0,none⟩) (l.length+1) cap3) (l.take i++t::l.drop i) LT (wr.drew.setCells g3 (i*27) (thC t))):=by
      have:=HA.out.drew.set HLI.out t
      have e1:(l.take i).length=i:=by simp;omega
      rw [e1] at this
      exact this
     have HTH:Hid (wr.there g3 (i*27) (thC t).toArray.size):=by
      intro k hk
      have hk':k<27:=by rwa [List.size_toArray,thC_len] at hk
      have hr:wr.rangeAt g3 (i*27) (thC y):=owns_rangeT (by have:=HA.out.own;rw [HLI.out] at this;exact this) (by rw [List.getElem?_append_right (by simp;omega)];simp;rw [show i - min i l.length=0 by omega];rfl)
      refine ⟨?_,?_⟩
      ·rw [hr k _ (List.getElem?_eq_getElem (by rw [thC_len];exact hk'))];rfl
      ·have:=HA.out.own;rw [HLI.out] at this;exact this.frozenAt _
     have hj1:(i:Int)<(l.length:Int)+1:=by omega
     have hwj:IntKind.i64.wrap (i:Int)=(i:Int):=IntWalk.i64_in _ (by omega)
     have hBr:w.heap.size<wr.heap.size:=range_lt HA.out.bx (by rw [HLN.out];omega)
     have HSS:Hid (∀W,Nw wr W→W.cell? ⟨R,o,none⟩=some (.slice (some ⟨g3,0,none⟩) (l.length+1) cap3)∧W.rangeAt w.heap.size 0 LT):=fun W kW=>⟨(kW.cell (p:=⟨R,o,none⟩) hRr (fun h=>h)).trans HA.out.c0,range_kp HA.out.bx hBr kW (fun h=>h)⟩
     have HSE:Hid ((wr.drew.setCells g3 (i*27) (thC t)).cell? ⟨R,o,none⟩=some (.slice (some ⟨g3,0,none⟩) (l.length+1) cap3)∧(wr.drew.setCells g3 (i*27) (thC t)).rangeAt w.heap.size 0 LT):=⟨HNX.out.c0,HNX.out.bx⟩
     have HSXA:Hid ((Tryz.prog.info? 129).map (·.size)=some (thC t).toArray.size):=size_thA t
     rw [HLT.out] at HNX HTH HSE HSXA
     have HFIN:Hid (CrPost w R o base (.slice (some ⟨g,0,none⟩) l.length cc) ⟨l.take i++t::l.drop i,most,over⟩ (.returned (.tuple #[])) (wr.drew.setCells g3 (i*27) LT)):=by
      have hh:=HNX.out
      have hn2:(l.take i++t::l.drop i).length=l.length+1:=by simp;omega
      refine ⟨rfl,(.slice (some ⟨g3,0,none⟩) (l.length+1) cap3),⟨hh.c0,?_,?_,hh.z,hh.own,H.out.lt⟩,⟨hh.kp,?_,hh.ow⟩⟩
      ·exact (hh.c (o+1) (by omega)).trans H.out.c1
      ·exact (hh.c (o+2) (by omega)).trans H.out.c2
      ·intro p hp1 hp2;exact hh.c p hp1
     go_wp2
     refine wp_region_held_drew (S:=fun W=>W.cell? ⟨R,o,none⟩=some (.slice (some ⟨g3,0,none⟩) (l.length+1) cap3)∧W.rangeAt w.heap.size 0 LT) (by kernel_rfl) (HSS.out _ ((Kp.refl _ _).drew)) (fun hHeld => ?_)
     refine tM 0 rfl (fun W hSW=>by (try dsimp only at hSW);go_simp;rw []) hHeld ?_
     refine tM 1 rfl (fun W hSW=>by (try dsimp only at hSW);go_simp;rw []) hHeld ?_
     refine tM 2 rfl (fun W hSW=>by (try dsimp only at hSW);go_simp;rw []) hHeld ?_
     refine tM 3 rfl (fun W hSW=>by (try dsimp only at hSW);go_simp;rw []) hHeld ?_
     refine tM 4 rfl (fun W hSW=>by (try dsimp only at hSW);go_simp;rw []) hHeld ?_
     refine tN (i:=5) (v:=_) rfl (yieldsIf_load_mid (by rfl) 129 _ rfl w.heap.size (0) rfl LT dd (fun W h=>h.2) HU.out HD.out HI.out) hHeld ?_
     refine tM 6 rfl (fun W hSW=>by (try dsimp only at hSW);go_simp;rw []) hHeld ?_
     refine wpAnyH_ready (rs:=[7]) (by kernel_rfl) (by simp) ?_
     refine consL rfl (fun K hK => ?_) AllReadyH.nil
     rw [if_pos (by rfl)]
     refine wp_store_mid 129 _ _ rfl g3 (i*27) LT.toArray rfl rfl ?_ HSXA.out (all_oneCell_toArray HONE.out) ?_
     ·exact HTH.out
     refine hK.out _ _ HSE.out (fun _ => ?_)
     clear hK K
     try simp only [Act.put,sA,sZ,sS]
     refine wpAnyH_done (by kernel_rfl) ?_ _
     go_wp2
     go_end0
     exact HFIN.out
 ·have hca':decide (pl<l.length)=false:=by simp;omega
  clear hca
  refine wp_region_held_drew (S:=fun W=>Nw w1 W) (by kernel_rfl) ((Kp.refl _ _).drew) (fun hHeld => ?_)
  refine tM 0 rfl (fun W hSW=>by (try dsimp only at hSW);go_simp;rw []) hHeld ?_
  refine tM 1 rfl (fun W hSW=>by (try dsimp only at hSW);go_simp;rw []) hHeld ?_
  refine tM 2 rfl (fun W hSW=>by (try dsimp only at hSW);go_simp;rw []) hHeld ?_
  refine tM 3 rfl (fun W hSW=>by (try dsimp only at hSW);go_simp;rw []) hHeld ?_
  refine tM 4 rfl (fun W hSW=>by (try dsimp only at hSW);go_simp;rw []) hHeld ?_
  refine tM 5 rfl (fun W hSW=>by (try dsimp only at hSW);go_simp;rw []) hHeld ?_
  refine tM 6 rfl (fun W hSW=>by (try dsimp only at hSW);go_simp;rw []) hHeld ?_
  refine tM 7 rfl (fun W hSW=>by (try dsimp only at hSW);go_simp;rw []) hHeld ?_
  refine tN (i:=8) (v:=undef) rfl (Or.inr ⟨by rfl,rfl⟩) hHeld ?_
  refine tN (i:=9) (v:=undef) rfl (Or.inr ⟨by rfl,rfl⟩) hHeld ?_
  refine tN (i:=10) (v:=undef) rfl (Or.inr ⟨by rfl,rfl⟩) hHeld ?_
  refine tN (i:=11) (v:=undef) rfl (Or.inr ⟨by rfl,rfl⟩) hHeld ?_
  refine tN (i:=12) (v:=undef) rfl (Or.inr ⟨by rfl,rfl⟩) hHeld ?_
  refine tN (i:=13) (v:=undef) rfl (Or.inr ⟨by rfl,rfl⟩) hHeld ?_
  refine tN (i:=14) (v:=undef) rfl (Or.inr ⟨by rfl,rfl⟩) hHeld ?_
  refine tN (i:=15) (v:=undef) rfl (Or.inr ⟨by rfl,rfl⟩) hHeld ?_
  refine tN (i:=16) (v:=undef) rfl (Or.inr ⟨by rfl,rfl⟩) hHeld ?_
  refine tM 17 rfl (fun W hSW=>by (try dsimp only at hSW);go_simp;rw []) hHeld ?_
  refine wpAnyH_done (by kernel_rfl) ?_ _
  have HKE:Hid (Nw w1 w1.drew):=(Kp.refl _ _).drew
  clear hHeld
  go_wp2
  refine wp_region_held_drew (S:=fun W=>Nw w1 W) (by kernel_rfl) (((Kp.refl _ _).drew).drew) (fun hHeld => ?_)
  refine tM 0 rfl (fun W hSW=>by (try dsimp only at hSW);go_simp;rw []) hHeld ?_
  refine tM 1 rfl (fun W hSW=>by (try dsimp only at hSW);go_simp;rw []) hHeld ?_
  refine tM 2 rfl (fun W hSW=>by (try dsimp only at hSW);go_simp;rw []) hHeld ?_
  refine tM 3 rfl (fun W hSW=>by (try dsimp only at hSW);go_simp;rw []) hHeld ?_
  refine tM 4 rfl (fun W hSW=>by (try dsimp only at hSW);go_simp;rw []) hHeld ?_
  refine tM 5 rfl (fun W hSW=>by (try dsimp only at hSW);go_simp;rw []) hHeld ?_
  refine tM 6 rfl (fun W hSW=>by (try dsimp only at hSW);go_simp;rw []) hHeld ?_
  refine tM 7 rfl (fun W hSW=>by (try dsimp only at hSW);go_simp;rw []) hHeld ?_
  refine tM 8 rfl (fun W hSW=>by (try dsimp only at hSW);go_simp;rw []) hHeld ?_
  refine tM 9 rfl (fun W hSW=>by (try dsimp only at hSW);go_simp;rw []) hHeld ?_
  refine wpAnyH_done (by kernel_rfl) ?_ _
  have HK2:Hid (Nw w1 w1.drew.drew):=((Kp.refl _ _).drew).drew
  have HTAIL2:=HTAIL.out _ K1.out _ HK2.out
  clear hHeld s1 s2
  go_wp2
  generalize w1.drew.drew=w2 at *
  have HKW2:Hid (Nw w w2):=KW.out.trans HK2.out
  have hc0:w2.cell? ⟨R,o,none⟩=some (.slice gp l.length cc):=(H.out.nw HKW2.out).c0
  have hR2:R<w2.heap.size:=by have:=HK2.out.size;omega
  have hs2:w.heap.size<w2.heap.size:=by have:=HK2.out.size;omega
  have HO2:Hid (w2.ownsRow base 129 27 (.slice gp l.length cc) l.length (thsC l)):=(H.out.nw HKW2.out).own
  have HB2:Hid (∀W,Nw w2 W→W.rangeAt w.heap.size 0 LT):=fun W kW=>HBX.out W (K1.out.trans (HK2.out.trans kW))
  clear K1 HK2 HTAIL2 hR1 hs1
  refine wp_region_held_drew (S:=fun W=>W.rangeAt w.heap.size 0 LT) (by kernel_rfl) (HB2.out _ ((Kp.refl _ _).drew)) (fun hHeld => ?_)
  refine tM 0 rfl (fun W hSW=>by (try dsimp only at hSW);go_simp;rw []) hHeld ?_
  refine tM 1 rfl (fun W hSW=>by (try dsimp only at hSW);go_simp;rw []) hHeld ?_
  refine tM 2 rfl (fun W hSW=>by (try dsimp only at hSW);go_simp;rw []) hHeld ?_
  refine tM 3 rfl (fun W hSW=>by (try dsimp only at hSW);go_simp;rw []) hHeld ?_
  refine tN (i:=5) (v:=_) rfl (yieldsIf_load_mid (by rfl) 129 _ rfl w.heap.size (0) rfl LT dd (fun W kW=>kW) HU.out HD.out HI.out) hHeld ?_
  obtain ⟨i0,hi,hz0,hz1,hz2⟩:=info_parts Tryz.infoThr
  have hLN:LT.length=27:=HLN.out
  have hfold:=fold_th hLN
  refine wpAnyH_ready (rs:=[4,6]) (by kernel_rfl) (by simp) ?_
  refine consL rfl (fun K hK => ?_) (consL rfl (fun K hK => ?_) AllReadyH.nil)
  ·go_simp
   refine hK.out _ _ hHeld (fun _ => ?_)
   clear hK K
   try simp only [Act.put,sA,sZ,sS]
   refine wpAnyH_ready (rs:=[6]) (by kernel_rfl) (by simp) ?_
   refine consL rfl (fun K hK => ?_) AllReadyH.nil
   go_simp
   refine hK.out _ _ (HB2.out _ (((Kp.refl _ _).alloc _).drew)) (fun hH2 => ?_)
   clear hK K hfold hLN
   refine wpAnyH_ready (rs:=[7]) (by kernel_rfl) (by simp) ?_
   refine consL rfl (fun K hK => ?_) AllReadyH.nil
   refine step_append_lies _ (by rfl) _ _ _ (by rfl) base 129 i0 (.agg #[int i64 0,int i64 0,int i64 0,int i64 0,int i64 0,int i64 0,int i64 0,int i64 0,int i64 0,int i64 0,int i64 0,int i64 0,int i64 0,int i64 0,int i64 0,int i64 0,int i64 0,int i64 0,int i64 0,int i64 0,int i64 0,int i64 0,int i64 0,int i64 0,int i64 0,int i64 0,int i64 0]) 27 216 Tryz.unThs hi hz0 hz1 hz2 rfl (by omega) (.slice gp l.length cc) l.length (thsC l) (by rfl) ((HO2.out.alloc _).drew) ⟨w2.heap.size,0,none⟩ 1 1 LT (by rfl) (by rw [HLN.out]) ?_ HONE.out (by omega) (by unfold maxLen;omega) (by omega) (by simp;omega) (w2.heap.size+1) (by simp) ?_
   ·intro j u hu
    rw [Addr.add_mid]
    exact (Bx.new w2 LT 129).r j u hu
   intro g3 cap3 w3 hown3 hgrow hat hlt3
   have k3:Kp (fun b=>(slice gp l.length cc).ownBlock=some b) w2 w3:=(((Kp.refl _ w2).alloc _).drew).grown hgrow (fun b hb=>Or.inr hb)
   have hRn:¬(slice gp l.length cc).ownBlock=some R:=by intro e;have:=(H.out.own.lt R e).1;have:=H.out.lt;omega
   have hBn:¬(slice gp l.length cc).ownBlock=some w.heap.size:=by intro e;have:=(H.out.own.lt w.heap.size e).2;omega
   have hB3:w3.rangeAt w.heap.size 0 LT:=range_kp (HB2.out _ (Kp.refl _ _)) hs2 k3 hBn
   have hc3:∀p,w3.cell? ⟨R,p,none⟩=w.cell? ⟨R,p,none⟩:=fun p=>(k3.cell (p:=⟨R,p,none⟩) hR2 hRn).trans (HKW2.out.cell (p:=⟨R,p,none⟩) HRL.out (fun h=>h))
   have hz3:∀p,w3.frozen? ⟨R,p,none⟩=false:=fun p=>((k3.frozen (p:=⟨R,p,none⟩) hR2 hRn).trans (HKW2.out.frozen (p:=⟨R,p,none⟩) HRL.out (fun h=>h))).trans (H.out.z p)
   have hg3:¬g3=R∧¬g3=w.heap.size∧((slice gp l.length cc).ownBlock=some g3∨w.heap.size≤g3):=by
    rcases hat with e|e
    ·exact ⟨fun e2=>hRn (by rw [←e2];exact e),fun e2=>hBn (by rw [←e2];exact e),Or.inl e⟩
    ·exact ⟨by omega,by omega,Or.inr (by omega)⟩
   have KW3:Hid (Kp (fun b=>b=R∨(slice gp l.length cc).ownBlock=some b) w w3):=(HKW2.out.mono (fun _ _ h=>h.elim)).trans' k3 (fun b _ e=>Or.inr e)
   have HAD:Hid (AdI w R o base w.heap.size (.slice gp l.length cc) (.slice (some ⟨g3,0,none⟩) (l.length+1) cap3) (l++[t]) LT (w3.setCell ⟨R,o,none⟩ (.slice (some ⟨g3,0,none⟩) (l.length+1) cap3))):=by
    have kk:Kp (fun b=>b=R) w3 (w3.setCell ⟨R,o,none⟩ (.slice (some ⟨g3,0,none⟩) (l.length+1) cap3)):=(Kp.refl (fun b=>b=R) w3).setCell (p:=⟨R,o,none⟩) (Or.inr rfl) _
    have hR3:R<w3.heap.size:=Nat.lt_of_lt_of_le hR2 k3.size
    have hB3l:w.heap.size<w3.heap.size:=Nat.lt_of_lt_of_le hs2 k3.size
    have hcc:=(hc3 o).trans H.out.c0
    refine ⟨by simp [go_sem,hcc,hz3],?_,range_kp hB3 hB3l kk (by have:=HRL.out;omega),KW3.out.trans' kk (fun b _ e=>Or.inl e),?_,?_,?_,?_⟩
    ·have e1:(l++[t]).length=l.length+1:=by simp
     have e2:thsC (l++[t])=thsC l++LT:=by rw [thsC_app,←HLT.out];simp [thsC]
     rw [e1,e2]
     exact owns_kp hown3 kk (by intro b hb e;simp [Value.ownBlock] at hb;have:=hg3.1;omega)
    ·intro p hp
     have hp':¬o=p:=fun e=>hp e.symm
     rw [←hc3 p]
     simp [go_sem,hp,hp']
    ·intro p;rw [←hz3 p];simp [go_sem]
    ·intro b hb;simp only [Value.ownBlock,Option.some.injEq] at hb;subst hb;exact hg3.2.2
    ·intro b hb;simp only [Value.ownBlock,Option.some.injEq] at hb;subst hb;exact ⟨hg3.2.1,hg3.1⟩
   have hc3o:=(hc3 o).trans H.out.c0
   have hR3:R<w3.heap.size:=Nat.lt_of_lt_of_le hR2 k3.size
   refine hK.out _ _ hB3 (fun hH3 => ?_)
   clear hK K hown3 hgrow hat k3 hc3
   try simp only [Act.put,sA,sZ,sS]
   refine tM 8 rfl (fun W hSW=>by (try dsimp only at hSW);go_simp;rw []) hH3 ?_
   refine tM 9 rfl (fun W hSW=>by (try dsimp only at hSW);go_simp;rw []) hH3 ?_
   refine wpAnyH_ready (rs:=[10]) (by kernel_rfl) (by simp) ?_
   refine consL rfl (fun K hK => ?_) AllReadyH.nil
   go_simp
   refine hK.out _ _ HAD.out.bx (fun _ => ?_)
   clear hK K
   try simp only [Act.put,sA,sZ,sS]
   refine wpAnyH_done (by kernel_rfl) ?_ _
   generalize w3.setCell ⟨R,o,none⟩ (.slice (some ⟨g3,0,none⟩) (l.length+1) cap3)=w4 at *
   have hc4:=HAD.out.c0
   clear hH2 hH3 hc3o hz3 hHeld hB3 hlt3 HO2 HB2 hc0
   go_wp2
   go_loopg [5] (l.length - pl) (fun m v5 wr=>∃(i:Nat) (y:Thr),v5=.int .i64 i∧m=i - pl∧pl≤i∧i≤l.length∧AdI w R o base w.heap.size (.slice gp l.length cc) (.slice (some ⟨g3,0,none⟩) (l.length+1) cap3) (l.take i++y::l.drop i) LT wr)
   case atStart=>exact ⟨l.length,t,by simp,rfl,hle,Nat.le_refl _,by simpa using HAD.out⟩
   case round =>
    obtain ⟨i,y,rfl,hm,hpi,hil,hA⟩:=hrel
    have HM:Hid (_=i - pl):=hm
    have HA:Hid (AdI w R o base w.heap.size (.slice gp l.length cc) (.slice (some ⟨g3,0,none⟩) (l.length+1) cap3) (l.take i++y::l.drop i) LT wr):=hA
    have HLI:Hid ((l.take i++y::l.drop i).length=l.length+1):=by show _=_;simp;omega
    have hgr:g3<wr.heap.size:=(hA.own.lt g3 rfl).2
    have hRr:R<wr.heap.size:=World.block_lt_of_cell? wr ⟨R,o,none⟩ hA.c0
    clear hm hA HAD hc4
    by_cases hlt:pl<i
    ·obtain ⟨j,rfl⟩:∃j,i=j+1:=⟨i - 1,by omega⟩
     obtain ⟨x,hx⟩:∃x,l[j]? = some x:=⟨_,List.getElem?_eq_getElem (by omega)⟩
     have hxx:(l.take (j+1)++y::l.drop (j+1))[j]? = some x:=by
      rw [List.getElem?_append_left (by simp;omega),List.getElem?_take];simp [hx]
     have HRG:Hid (wr.rangeAt g3 (j*27) (thC x)):=owns_rangeT (by have:=HA.out.own;rw [HLI.out] at this;exact this) hxx
     have HNX:Hid (AdI w R o base w.heap.size (.slice gp l.length cc) (.slice (some ⟨g3,0,none⟩) (l.length+1) cap3) (l.take j++x::l.drop j) LT (wr.drew.setCells g3 ((j+1)*27) (thC x))):=by
      have:=HA.out.drew.set HLI.out x
      have e1:(l.take (j+1)).length=j+1:=by simp;omega
      have e2:l.take (j+1)++x::l.drop (j+1)=l.take j++x::l.drop j:=by
       rw [List.take_add_one,hx]
       have:l.drop j=x::l.drop (j+1):=by
        obtain ⟨h1,h2⟩:=List.getElem?_eq_some_iff.1 hx
        rw [←h2,List.getElem_cons_drop]
       rw [this];simp
      rw [e1,e2] at this
      exact this
     have HTH:Hid (wr.there g3 ((j+1)*27) (thC x).toArray.size):=by
      intro k hk
      have hk':k<27:=by rwa [List.size_toArray,thC_len] at hk
      have hr:wr.rangeAt g3 ((j+1)*27) (thC y):=owns_rangeT (by have:=HA.out.own;rw [HLI.out] at this;exact this) (by rw [List.getElem?_append_right (by simp;omega)];simp;rw [show j+1 - min (j+1) l.length=0 by omega];rfl)
      refine ⟨?_,?_⟩
      ·rw [hr k _ (List.getElem?_eq_getElem (by rw [thC_len];exact hk'))];rfl
      ·have:=HA.out.own;rw [HLI.out] at this;exact this.frozenAt _
     have hj1:(j:Int)<(l.length:Int)+1:=by omega
     have hj3:(j:Int)+1<(l.length:Int)+1:=by omega
     have hj4:j<l.length:=by omega
     have hj5:(0:Int)≤(j:Int)+1:=by omega
     have hwj:IntKind.i64.wrap (j:Int)=(j:Int):=IntWalk.i64_in _ (by omega)
     have hj2:j+1<l.length+1:=by omega
     have hc5:=HA.out.c0
     have HSS:Hid (∀W,Nw wr W→W.cell? ⟨R,o,none⟩=some (.slice (some ⟨g3,0,none⟩) (l.length+1) cap3)∧W.rangeAt g3 (j*27) (thC x)):=fun W kW=>⟨(kW.cell (p:=⟨R,o,none⟩) hRr (fun h=>h)).trans HA.out.c0,range_kp HRG.out hgr kW (fun h=>h)⟩
     have HSE:Hid ((wr.drew.setCells g3 ((j+1)*27) (thC x)).cell? ⟨R,o,none⟩=some (.slice (some ⟨g3,0,none⟩) (l.length+1) cap3)∧(wr.drew.setCells g3 ((j+1)*27) (thC x)).rangeAt g3 (j*27) (thC x)):=⟨HNX.out.c0,World.rangeAt_setCells_apart (w:=wr.drew) HRG.out g3 _ _ (Or.inr (Or.inl (by rw [thC_len];omega)))⟩
     clear hx hxx
     generalize thC_g:thC x=LX at *
     have HONX:Hid (∀v∈LX,v.oneCell'=true):=by rw [←thC_g];exact thC_one x
     have HSX:Hid ((Tryz.prog.info? 129).map (·.size)=some LX.length):=by rw [←thC_g];exact size_th x
     have HSXA:Hid ((Tryz.prog.info? 129).map (·.size)=some LX.toArray.size):=by rw [←thC_g];exact size_thA x
     clear thC_g
     go_wp2
     refine wp_region_held_drew (S:=fun W=>W.cell? ⟨R,o,none⟩=some (.slice (some ⟨g3,0,none⟩) (l.length+1) cap3)∧W.rangeAt g3 (j*27) LX) (by kernel_rfl) (HSS.out _ ((Kp.refl _ _).drew)) (fun hHeld => ?_)
     refine tM 0 rfl (fun W hSW=>by (try dsimp only at hSW);go_simp;rw []) hHeld ?_
     refine tM 1 rfl (fun W hSW=>by (try dsimp only at hSW);go_simp;rw []) hHeld ?_
     refine tM 2 rfl (fun W hSW=>by (try dsimp only at hSW);go_simp;rw []) hHeld ?_
     refine tM 3 rfl (fun W hSW=>by (try dsimp only at hSW);go_simp;rw []) hHeld ?_
     refine tM 4 rfl (fun W hSW=>by (try dsimp only at hSW);go_simp;rw []) hHeld ?_
     refine tM 5 rfl (fun W hSW=>by (try dsimp only at hSW);go_simp;rw []) hHeld ?_
     refine tM 6 rfl (fun W hSW=>by (try dsimp only at hSW);go_simp;rw []) hHeld ?_
     refine tM 7 rfl (fun W hSW=>by (try dsimp only at hSW);go_simp;rw []) hHeld ?_
     refine tM 8 rfl (fun W hSW=>by (try dsimp only at hSW);go_simp;rw []) hHeld ?_
     refine tM 9 rfl (fun W hSW=>by (try dsimp only at hSW);go_simp;rw []) hHeld ?_
     refine tM 10 rfl (fun W hSW=>by (try dsimp only at hSW);go_simp;rw []) hHeld ?_
     refine tM 11 rfl (fun W hSW=>by (try dsimp only at hSW);go_simp;rw []) hHeld ?_
     refine tN (i:=12) (v:=_) rfl (yieldsIf_load_mid (by rfl) 129 _ rfl g3 (j*27) rfl LX dd (fun W h=>h.2) HU.out HD.out HSX.out) hHeld ?_
     refine tM 13 rfl (fun W hSW=>by (try dsimp only at hSW);go_simp;rw []) hHeld ?_
     refine wpAnyH_ready (rs:=[14]) (by kernel_rfl) (by simp) ?_
     refine consL rfl (fun K hK => ?_) AllReadyH.nil
     rw [if_pos (by rfl)]
     refine wp_store_mid 129 _ _ rfl g3 ((j+1)*27) LX.toArray rfl rfl ?_ HSXA.out (all_oneCell_toArray HONX.out) ?_
     ·exact HTH.out
     refine hK.out _ _ HSE.out (fun _ => ?_)
     clear hK K
     try simp only [Act.put,sA,sZ,sS]
     refine wpAnyH_done (by kernel_rfl) ?_ _
     generalize wr.drew.setCells g3 ((j+1)*27) LX=wn at *
     go_wp2
     go_roundg (j - pl)
     case measure=>rw [HM.out];omega
     case rel=>exact ⟨j,x,by simp,rfl,by omega,by omega,HNX.out⟩
    ·have hie:i=pl:=by omega
     subst hie
     have HNX:Hid (AdI w R o base w.heap.size (.slice gp l.length cc) (.slice (some ⟨g3,0,none⟩) (l.length+1) cap3) (l.take i++t::l.drop i) LT (wr.drew.setCells g3 (i*27) (thC t))):=by
      have:=HA.out.drew.set HLI.out t
      have e1:(l.take i).length=i:=by simp;omega
      rw [e1] at this
      exact this
     have HTH:Hid (wr.there g3 (i*27) (thC t).toArray.size):=by
      intro k hk
      have hk':k<27:=by rwa [List.size_toArray,thC_len] at hk
      have hr:wr.rangeAt g3 (i*27) (thC y):=owns_rangeT (by have:=HA.out.own;rw [HLI.out] at this;exact this) (by rw [List.getElem?_append_right (by simp;omega)];simp;rw [show i - min i l.length=0 by omega];rfl)
      refine ⟨?_,?_⟩
      ·rw [hr k _ (List.getElem?_eq_getElem (by rw [thC_len];exact hk'))];rfl
      ·have:=HA.out.own;rw [HLI.out] at this;exact this.frozenAt _
     have hj1:(i:Int)<(l.length:Int)+1:=by omega
     have hwj:IntKind.i64.wrap (i:Int)=(i:Int):=IntWalk.i64_in _ (by omega)
     have hBr:w.heap.size<wr.heap.size:=range_lt HA.out.bx (by rw [HLN.out];omega)
     have HSS:Hid (∀W,Nw wr W→W.cell? ⟨R,o,none⟩=some (.slice (some ⟨g3,0,none⟩) (l.length+1) cap3)∧W.rangeAt w.heap.size 0 LT):=fun W kW=>⟨(kW.cell (p:=⟨R,o,none⟩) hRr (fun h=>h)).trans HA.out.c0,range_kp HA.out.bx hBr kW (fun h=>h)⟩
     have HSE:Hid ((wr.drew.setCells g3 (i*27) (thC t)).cell? ⟨R,o,none⟩=some (.slice (some ⟨g3,0,none⟩) (l.length+1) cap3)∧(wr.drew.setCells g3 (i*27) (thC t)).rangeAt w.heap.size 0 LT):=⟨HNX.out.c0,HNX.out.bx⟩
     have HSXA:Hid ((Tryz.prog.info? 129).map (·.size)=some (thC t).toArray.size):=size_thA t
     rw [HLT.out] at HNX HTH HSE HSXA
     have HFIN:Hid (CrPost w R o base (.slice gp l.length cc) ⟨l.take i++t::l.drop i,most,over⟩ (.returned (.tuple #[])) (wr.drew.setCells g3 (i*27) LT)):=by
      have hh:=HNX.out
      have hn2:(l.take i++t::l.drop i).length=l.length+1:=by simp;omega
      refine ⟨rfl,(.slice (some ⟨g3,0,none⟩) (l.length+1) cap3),⟨hh.c0,?_,?_,hh.z,hh.own,H.out.lt⟩,⟨hh.kp,?_,hh.ow⟩⟩
      ·exact (hh.c (o+1) (by omega)).trans H.out.c1
      ·exact (hh.c (o+2) (by omega)).trans H.out.c2
      ·intro p hp1 hp2;exact hh.c p hp1
     go_wp2
     refine wp_region_held_drew (S:=fun W=>W.cell? ⟨R,o,none⟩=some (.slice (some ⟨g3,0,none⟩) (l.length+1) cap3)∧W.rangeAt w.heap.size 0 LT) (by kernel_rfl) (HSS.out _ ((Kp.refl _ _).drew)) (fun hHeld => ?_)
     refine tM 0 rfl (fun W hSW=>by (try dsimp only at hSW);go_simp;rw []) hHeld ?_
     refine tM 1 rfl (fun W hSW=>by (try dsimp only at hSW);go_simp;rw []) hHeld ?_
     refine tM 2 rfl (fun W hSW=>by (try dsimp only at hSW);go_simp;rw []) hHeld ?_
     refine tM 3 rfl (fun W hSW=>by (try dsimp only at hSW);go_simp;rw []) hHeld ?_
     refine tM 4 rfl (fun W hSW=>by (try dsimp only at hSW);go_simp;rw []) hHeld ?_
     refine tN (i:=5) (v:=_) rfl (yieldsIf_load_mid (by rfl) 129 _ rfl w.heap.size (0) rfl LT dd (fun W h=>h.2) HU.out HD.out HI.out) hHeld ?_
     refine tM 6 rfl (fun W hSW=>by (try dsimp only at hSW);go_simp;rw []) hHeld ?_
     refine wpAnyH_ready (rs:=[7]) (by kernel_rfl) (by simp) ?_
     refine consL rfl (fun K hK => ?_) AllReadyH.nil
     rw [if_pos (by rfl)]
     refine wp_store_mid 129 _ _ rfl g3 (i*27) LT.toArray rfl rfl ?_ HSXA.out (all_oneCell_toArray HONE.out) ?_
     ·exact HTH.out
     refine hK.out _ _ HSE.out (fun _ => ?_)
     clear hK K
     try simp only [Act.put,sA,sZ,sS]
     refine wpAnyH_done (by kernel_rfl) ?_ _
     go_wp2
     go_end0
     exact HFIN.out
  ·go_simp
   refine hK.out _ _ (HB2.out _ (((Kp.refl _ _).alloc _).drew)) (fun hH2 => ?_)
   clear hK K hfold hLN
   refine wpAnyH_ready (rs:=[4]) (by kernel_rfl) (by simp) ?_
   refine consL rfl (fun K hK => ?_) AllReadyH.nil
   go_simp
   refine hK.out _ _ hH2 (fun _ => ?_)
   clear hK K
   try simp only [Act.put,sA,sZ,sS]
   refine wpAnyH_ready (rs:=[7]) (by kernel_rfl) (by simp) ?_
   refine consL rfl (fun K hK => ?_) AllReadyH.nil
   refine step_append_lies _ (by rfl) _ _ _ (by rfl) base 129 i0 (.agg #[int i64 0,int i64 0,int i64 0,int i64 0,int i64 0,int i64 0,int i64 0,int i64 0,int i64 0,int i64 0,int i64 0,int i64 0,int i64 0,int i64 0,int i64 0,int i64 0,int i64 0,int i64 0,int i64 0,int i64 0,int i64 0,int i64 0,int i64 0,int i64 0,int i64 0,int i64 0,int i64 0]) 27 216 Tryz.unThs hi hz0 hz1 hz2 rfl (by omega) (.slice gp l.length cc) l.length (thsC l) (by rfl) ((HO2.out.alloc _).drew) ⟨w2.heap.size,0,none⟩ 1 1 LT (by rfl) (by rw [HLN.out]) ?_ HONE.out (by omega) (by unfold maxLen;omega) (by omega) (by simp;omega) (w2.heap.size+1) (by simp) ?_
   ·intro j u hu
    rw [Addr.add_mid]
    exact (Bx.new w2 LT 129).r j u hu
   intro g3 cap3 w3 hown3 hgrow hat hlt3
   have k3:Kp (fun b=>(slice gp l.length cc).ownBlock=some b) w2 w3:=(((Kp.refl _ w2).alloc _).drew).grown hgrow (fun b hb=>Or.inr hb)
   have hRn:¬(slice gp l.length cc).ownBlock=some R:=by intro e;have:=(H.out.own.lt R e).1;have:=H.out.lt;omega
   have hBn:¬(slice gp l.length cc).ownBlock=some w.heap.size:=by intro e;have:=(H.out.own.lt w.heap.size e).2;omega
   have hB3:w3.rangeAt w.heap.size 0 LT:=range_kp (HB2.out _ (Kp.refl _ _)) hs2 k3 hBn
   have hc3:∀p,w3.cell? ⟨R,p,none⟩=w.cell? ⟨R,p,none⟩:=fun p=>(k3.cell (p:=⟨R,p,none⟩) hR2 hRn).trans (HKW2.out.cell (p:=⟨R,p,none⟩) HRL.out (fun h=>h))
   have hz3:∀p,w3.frozen? ⟨R,p,none⟩=false:=fun p=>((k3.frozen (p:=⟨R,p,none⟩) hR2 hRn).trans (HKW2.out.frozen (p:=⟨R,p,none⟩) HRL.out (fun h=>h))).trans (H.out.z p)
   have hg3:¬g3=R∧¬g3=w.heap.size∧((slice gp l.length cc).ownBlock=some g3∨w.heap.size≤g3):=by
    rcases hat with e|e
    ·exact ⟨fun e2=>hRn (by rw [←e2];exact e),fun e2=>hBn (by rw [←e2];exact e),Or.inl e⟩
    ·exact ⟨by omega,by omega,Or.inr (by omega)⟩
   have KW3:Hid (Kp (fun b=>b=R∨(slice gp l.length cc).ownBlock=some b) w w3):=(HKW2.out.mono (fun _ _ h=>h.elim)).trans' k3 (fun b _ e=>Or.inr e)
   have HAD:Hid (AdI w R o base w.heap.size (.slice gp l.length cc) (.slice (some ⟨g3,0,none⟩) (l.length+1) cap3) (l++[t]) LT (w3.setCell ⟨R,o,none⟩ (.slice (some ⟨g3,0,none⟩) (l.length+1) cap3))):=by
    have kk:Kp (fun b=>b=R) w3 (w3.setCell ⟨R,o,none⟩ (.slice (some ⟨g3,0,none⟩) (l.length+1) cap3)):=(Kp.refl (fun b=>b=R) w3).setCell (p:=⟨R,o,none⟩) (Or.inr rfl) _
    have hR3:R<w3.heap.size:=Nat.lt_of_lt_of_le hR2 k3.size
    have hB3l:w.heap.size<w3.heap.size:=Nat.lt_of_lt_of_le hs2 k3.size
    have hcc:=(hc3 o).trans H.out.c0
    refine ⟨by simp [go_sem,hcc,hz3],?_,range_kp hB3 hB3l kk (by have:=HRL.out;omega),KW3.out.trans' kk (fun b _ e=>Or.inl e),?_,?_,?_,?_⟩
    ·have e1:(l++[t]).length=l.length+1:=by simp
     have e2:thsC (l++[t])=thsC l++LT:=by rw [thsC_app,←HLT.out];simp [thsC]
     rw [e1,e2]
     exact owns_kp hown3 kk (by intro b hb e;simp [Value.ownBlock] at hb;have:=hg3.1;omega)
    ·intro p hp
     have hp':¬o=p:=fun e=>hp e.symm
     rw [←hc3 p]
     simp [go_sem,hp,hp']
    ·intro p;rw [←hz3 p];simp [go_sem]
    ·intro b hb;simp only [Value.ownBlock,Option.some.injEq] at hb;subst hb;exact hg3.2.2
    ·intro b hb;simp only [Value.ownBlock,Option.some.injEq] at hb;subst hb;exact ⟨hg3.2.1,hg3.1⟩
   have hc3o:=(hc3 o).trans H.out.c0
   have hR3:R<w3.heap.size:=Nat.lt_of_lt_of_le hR2 k3.size
   refine hK.out _ _ hB3 (fun hH3 => ?_)
   clear hK K hown3 hgrow hat k3 hc3
   try simp only [Act.put,sA,sZ,sS]
   refine tM 8 rfl (fun W hSW=>by (try dsimp only at hSW);go_simp;rw []) hH3 ?_
   refine tM 9 rfl (fun W hSW=>by (try dsimp only at hSW);go_simp;rw []) hH3 ?_
   refine wpAnyH_ready (rs:=[10]) (by kernel_rfl) (by simp) ?_
   refine consL rfl (fun K hK => ?_) AllReadyH.nil
   go_simp
   refine hK.out _ _ HAD.out.bx (fun _ => ?_)
   clear hK K
   try simp only [Act.put,sA,sZ,sS]
   refine wpAnyH_done (by kernel_rfl) ?_ _
   generalize w3.setCell ⟨R,o,none⟩ (.slice (some ⟨g3,0,none⟩) (l.length+1) cap3)=w4 at *
   have hc4:=HAD.out.c0
   clear hH2 hH3 hc3o hz3 hHeld hB3 hlt3 HO2 HB2 hc0
   go_wp2
   go_loopg [5] (l.length - pl) (fun m v5 wr=>∃(i:Nat) (y:Thr),v5=.int .i64 i∧m=i - pl∧pl≤i∧i≤l.length∧AdI w R o base w.heap.size (.slice gp l.length cc) (.slice (some ⟨g3,0,none⟩) (l.length+1) cap3) (l.take i++y::l.drop i) LT wr)
   case atStart=>exact ⟨l.length,t,by simp,rfl,hle,Nat.le_refl _,by simpa using HAD.out⟩
   case round =>
    obtain ⟨i,y,rfl,hm,hpi,hil,hA⟩:=hrel
    have HM:Hid (_=i - pl):=hm
    have HA:Hid (AdI w R o base w.heap.size (.slice gp l.length cc) (.slice (some ⟨g3,0,none⟩) (l.length+1) cap3) (l.take i++y::l.drop i) LT wr):=hA
    have HLI:Hid ((l.take i++y::l.drop i).length=l.length+1):=by show _=_;simp;omega
    have hgr:g3<wr.heap.size:=(hA.own.lt g3 rfl).2
    have hRr:R<wr.heap.size:=World.block_lt_of_cell? wr ⟨R,o,none⟩ hA.c0
    clear hm hA HAD hc4
    by_cases hlt:pl<i
    ·obtain ⟨j,rfl⟩:∃j,i=j+1:=⟨i - 1,by omega⟩
     obtain ⟨x,hx⟩:∃x,l[j]? = some x:=⟨_,List.getElem?_eq_getElem (by omega)⟩
     have hxx:(l.take (j+1)++y::l.drop (j+1))[j]? = some x:=by
      rw [List.getElem?_append_left (by simp;omega),List.getElem?_take];simp [hx]
     have HRG:Hid (wr.rangeAt g3 (j*27) (thC x)):=owns_rangeT (by have:=HA.out.own;rw [HLI.out] at this;exact this) hxx
     have HNX:Hid (AdI w R o base w.heap.size (.slice gp l.length cc) (.slice (some ⟨g3,0,none⟩) (l.length+1) cap3) (l.take j++x::l.drop j) LT (wr.drew.setCells g3 ((j+1)*27) (thC x))):=by
      have:=HA.out.drew.set HLI.out x
      have e1:(l.take (j+1)).length=j+1:=by simp;omega
      have e2:l.take (j+1)++x::l.drop (j+1)=l.take j++x::l.drop j:=by
       rw [List.take_add_one,hx]
       have:l.drop j=x::l.drop (j+1):=by
        obtain ⟨h1,h2⟩:=List.getElem?_eq_some_iff.1 hx
        rw [←h2,List.getElem_cons_drop]
       rw [this];simp
      rw [e1,e2] at this
      exact this
     have HTH:Hid (wr.there g3 ((j+1)*27) (thC x).toArray.size):=by
      intro k hk
      have hk':k<27:=by rwa [List.size_toArray,thC_len] at hk
      have hr:wr.rangeAt g3 ((j+1)*27) (thC y):=owns_rangeT (by have:=HA.out.own;rw [HLI.out] at this;exact this) (by rw [List.getElem?_append_right (by simp;omega)];simp;rw [show j+1 - min (j+1) l.length=0 by omega];rfl)
      refine ⟨?_,?_⟩
      ·rw [hr k _ (List.getElem?_eq_getElem (by rw [thC_len];exact hk'))];rfl
      ·have:=HA.out.own;rw [HLI.out] at this;exact this.frozenAt _
     have hj1:(j:Int)<(l.length:Int)+1:=by omega
     have hj3:(j:Int)+1<(l.length:Int)+1:=by omega
     have hj4:j<l.length:=by omega
     have hj5:(0:Int)≤(j:Int)+1:=by omega
     have hwj:IntKind.i64.wrap (j:Int)=(j:Int):=IntWalk.i64_in _ (by omega)
     have hj2:j+1<l.length+1:=by omega
     have hc5:=HA.out.c0
     have HSS:Hid (∀W,Nw wr W→W.cell? ⟨R,o,none⟩=some (.slice (some ⟨g3,0,none⟩) (l.length+1) cap3)∧W.rangeAt g3 (j*27) (thC x)):=fun W kW=>⟨(kW.cell (p:=⟨R,o,none⟩) hRr (fun h=>h)).trans HA.out.c0,range_kp HRG.out hgr kW (fun h=>h)⟩
     have HSE:Hid ((wr.drew.setCells g3 ((j+1)*27) (thC x)).cell? ⟨R,o,none⟩=some (.slice (some ⟨g3,0,none⟩) (l.length+1) cap3)∧(wr.drew.setCells g3 ((j+1)*27) (thC x)).rangeAt g3 (j*27) (thC x)):=⟨HNX.out.c0,World.rangeAt_setCells_apart (w:=wr.drew) HRG.out g3 _ _ (Or.inr (Or.inl (by rw [thC_len];omega)))⟩
     clear hx hxx
     generalize thC_g:thC x=LX at *
     have HONX:Hid (∀v∈LX,v.oneCell'=true):=by rw [←thC_g];exact thC_one x
     have HSX:Hid ((Tryz.prog.info? 129).map (·.size)=some LX.length):=by rw [←thC_g];exact size_th x
     have HSXA:Hid ((Tryz.prog.info? 129).map (·.size)=some LX.toArray.size):=by rw [←thC_g];exact size_thA x
     clear thC_g
     go_wp2
     refine wp_region_held_drew (S:=fun W=>W.cell? ⟨R,o,none⟩=some (.slice (some ⟨g3,0,none⟩) (l.length+1) cap3)∧W.rangeAt g3 (j*27) LX) (by kernel_rfl) (HSS.out _ ((Kp.refl _ _).drew)) (fun hHeld => ?_)
     refine tM 0 rfl (fun W hSW=>by (try dsimp only at hSW);go_simp;rw []) hHeld ?_
     refine tM 1 rfl (fun W hSW=>by (try dsimp only at hSW);go_simp;rw []) hHeld ?_
     refine tM 2 rfl (fun W hSW=>by (try dsimp only at hSW);go_simp;rw []) hHeld ?_
     refine tM 3 rfl (fun W hSW=>by (try dsimp only at hSW);go_simp;rw []) hHeld ?_
     refine tM 4 rfl (fun W hSW=>by (try dsimp only at hSW);go_simp;rw []) hHeld ?_
     refine tM 5 rfl (fun W hSW=>by (try dsimp only at hSW);go_simp;rw []) hHeld ?_
     refine tM 6 rfl (fun W hSW=>by (try dsimp only at hSW);go_simp;rw []) hHeld ?_
     refine tM 7 rfl (fun W hSW=>by (try dsimp only at hSW);go_simp;rw []) hHeld ?_
     refine tM 8 rfl (fun W hSW=>by (try dsimp only at hSW);go_simp;rw []) hHeld ?_
     refine tM 9 rfl (fun W hSW=>by (try dsimp only at hSW);go_simp;rw []) hHeld ?_
     refine tM 10 rfl (fun W hSW=>by (try dsimp only at hSW);go_simp;rw []) hHeld ?_
     refine tM 11 rfl (fun W hSW=>by (try dsimp only at hSW);go_simp;rw []) hHeld ?_
     refine tN (i:=12) (v:=_) rfl (yieldsIf_load_mid (by rfl) 129 _ rfl g3 (j*27) rfl LX dd (fun W h=>h.2) HU.out HD.out HSX.out) hHeld ?_
     refine tM 13 rfl (fun W hSW=>by (try dsimp only at hSW);go_simp;rw []) hHeld ?_
     refine wpAnyH_ready (rs:=[14]) (by kernel_rfl) (by simp) ?_
     refine consL rfl (fun K hK => ?_) AllReadyH.nil
     rw [if_pos (by rfl)]
     refine wp_store_mid 129 _ _ rfl g3 ((j+1)*27) LX.toArray rfl rfl ?_ HSXA.out (all_oneCell_toArray HONX.out) ?_
     ·exact HTH.out
     refine hK.out _ _ HSE.out (fun _ => ?_)
     clear hK K
     try simp only [Act.put,sA,sZ,sS]
     refine wpAnyH_done (by kernel_rfl) ?_ _
     generalize wr.drew.setCells g3 ((j+1)*27) LX=wn at *
     go_wp2
     go_roundg (j - pl)
     case measure=>rw [HM.out];omega
     case rel=>exact ⟨j,x,by simp,rfl,by omega,by omega,HNX.out⟩
    ·have hie:i=pl:=by omega
     subst hie
     have HNX:Hid (AdI w R o base w.heap.size (.slice gp l.length cc) (.slice (some ⟨g3,0,none⟩) (l.length+1) cap3) (l.take i++t::l.drop i) LT (wr.drew.setCells g3 (i*27) (thC t))):=by
      have:=HA.out.drew.set HLI.out t
      have e1:(l.take i).length=i:=by simp;omega
      rw [e1] at this
      exact this
     have HTH:Hid (wr.there g3 (i*27) (thC t).toArray.size):=by
      intro k hk
      have hk':k<27:=by rwa [List.size_toArray,thC_len] at hk
      have hr:wr.rangeAt g3 (i*27) (thC y):=owns_rangeT (by have:=HA.out.own;rw [HLI.out] at this;exact this) (by rw [List.getElem?_append_right (by simp;omega)];simp;rw [show i - min i l.length=0 by omega];rfl)
      refine ⟨?_,?_⟩
      ·rw [hr k _ (List.getElem?_eq_getElem (by rw [thC_len];exact hk'))];rfl
      ·have:=HA.out.own;rw [HLI.out] at this;exact this.frozenAt _
     have hj1:(i:Int)<(l.length:Int)+1:=by omega
     have hwj:IntKind.i64.wrap (i:Int)=(i:Int):=IntWalk.i64_in _ (by omega)
     have hBr:w.heap.size<wr.heap.size:=range_lt HA.out.bx (by rw [HLN.out];omega)
     have HSS:Hid (∀W,Nw wr W→W.cell? ⟨R,o,none⟩=some (.slice (some ⟨g3,0,none⟩) (l.length+1) cap3)∧W.rangeAt w.heap.size 0 LT):=fun W kW=>⟨(kW.cell (p:=⟨R,o,none⟩) hRr (fun h=>h)).trans HA.out.c0,range_kp HA.out.bx hBr kW (fun h=>h)⟩
     have HSE:Hid ((wr.drew.setCells g3 (i*27) (thC t)).cell? ⟨R,o,none⟩=some (.slice (some ⟨g3,0,none⟩) (l.length+1) cap3)∧(wr.drew.setCells g3 (i*27) (thC t)).rangeAt w.heap.size 0 LT):=⟨HNX.out.c0,HNX.out.bx⟩
     have HSXA:Hid ((Tryz.prog.info? 129).map (·.size)=some (thC t).toArray.size):=size_thA t
     rw [HLT.out] at HNX HTH HSE HSXA
     have HFIN:Hid (CrPost w R o base (.slice gp l.length cc) ⟨l.take i++t::l.drop i,most,over⟩ (.returned (.tuple #[])) (wr.drew.setCells g3 (i*27) LT)):=by
      have hh:=HNX.out
      have hn2:(l.take i++t::l.drop i).length=l.length+1:=by simp;omega
      refine ⟨rfl,(.slice (some ⟨g3,0,none⟩) (l.length+1) cap3),⟨hh.c0,?_,?_,hh.z,hh.own,H.out.lt⟩,⟨hh.kp,?_,hh.ow⟩⟩
      ·exact (hh.c (o+1) (by omega)).trans H.out.c1
      ·exact (hh.c (o+2) (by omega)).trans H.out.c2
      ·intro p hp1 hp2;exact hh.c p hp1
     go_wp2
     refine wp_region_held_drew (S:=fun W=>W.cell? ⟨R,o,none⟩=some (.slice (some ⟨g3,0,none⟩) (l.length+1) cap3)∧W.rangeAt w.heap.size 0 LT) (by kernel_rfl) (HSS.out _ ((Kp.refl _ _).drew)) (fun hHeld => ?_)
     refine tM 0 rfl (fun W hSW=>by (try dsimp only at hSW);go_simp;rw []) hHeld ?_
     refine tM 1 rfl (fun W hSW=>by (try dsimp only at hSW);go_simp;rw []) hHeld ?_
     refine tM 2 rfl (fun W hSW=>by (try dsimp only at hSW);go_simp;rw []) hHeld ?_
     refine tM 3 rfl (fun W hSW=>by (try dsimp only at hSW);go_simp;rw []) hHeld ?_
     refine tM 4 rfl (fun W hSW=>by (try dsimp only at hSW);go_simp;rw []) hHeld ?_
     refine tN (i:=5) (v:=_) rfl (yieldsIf_load_mid (by rfl) 129 _ rfl w.heap.size (0) rfl LT dd (fun W h=>h.2) HU.out HD.out HI.out) hHeld ?_
     refine tM 6 rfl (fun W hSW=>by (try dsimp only at hSW);go_simp;rw []) hHeld ?_
     refine wpAnyH_ready (rs:=[7]) (by kernel_rfl) (by simp) ?_
     refine consL rfl (fun K hK => ?_) AllReadyH.nil
     rw [if_pos (by rfl)]
     refine wp_store_mid 129 _ _ rfl g3 (i*27) LT.toArray rfl rfl ?_ HSXA.out (all_oneCell_toArray HONE.out) ?_
     ·exact HTH.out
     refine hK.out _ _ HSE.out (fun _ => ?_)
     clear hK K
     try simp only [Act.put,sA,sZ,sS]
     refine wpAnyH_done (by kernel_rfl) ?_ _
     go_wp2
     go_end0
     exact HFIN.out
theorem addC_any (R o base:Nat) (v:Value) (c:Crw) (t:Thr) (w:World) (h:CrM w R o base v c) (hN:c.l.length≤10000) (hok:∀u∈c.l,ThrOk u) (ht:ThrOk t) (hbs:base≤w.heap.size) :
  Calls Tryz.prog 113 #[.pointer (some ⟨R,o,none⟩),.agg (thC t).toArray] w (CrPost w R o base v (addC c t)):=by
 unfold addC
 by_cases h1:c.l[plcT c.l t]? = some t
 ·rw [if_pos h1];exact add_here R o base v c t w h hN hok ht h1
 ·rw [if_neg h1]
  by_cases h2:c.most≤c.l.length
  ·rw [if_pos h2];exact add_over R o base v c t w h hN hok ht h1 h2
  ·rw [if_neg h2];exact add_in R o base v c t w h hN hok ht h1 h2 hbs
end Go.Proofs.YtcboiapggnmpfaaGreatDoor
