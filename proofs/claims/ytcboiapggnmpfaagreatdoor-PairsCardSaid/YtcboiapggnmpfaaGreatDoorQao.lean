import Derived.Test.YtcboiapggnmpfaaGreatDoorQan
import Derived.Deep.RegionLaw
import Derived.Deep.DrawnRows
import Derived.Test.YtcboiapggnmpfaaGreatDoorQal
import Derived.Test.YtcboiapggnmpfaaGreatDoorQab
namespace Go.Proofs.YtcboiapggnmpfaaGreatDoor
set_option maxRecDepth 100000
set_option maxHeartbeats 1000000
set_option linter.unusedSimpArgs false
set_option linter.unusedVariables false
open Go.RowKit
open Value (int slice)
structure Pp where
 first:Nat
 last:Nat
 nothing:Bool
def Pp.ok (p:Pp):Prop:=p.first<2 ^ 25∧p.last<2 ^ 25
def partV (p:Pp):Value:=.agg #[.int .i64 p.first,.int .i64 p.last,.bool p.nothing]
def joinS (p q:Pp):Pp:=⟨if p.nothing=true then p.first ||| q.first else p.first,if q.nothing=true then q.last ||| p.last else q.last,p.nothing&&q.nothing⟩
theorem joinS_ok {p q:Pp} (hp:p.ok) (hq:q.ok):(joinS p q).ok:=by
 unfold joinS Pp.ok
 refine ⟨?_,?_⟩
 ·show (if _ then _ else _)<_
  split
  ·exact Nat.or_lt_two_pow hp.1 hq.1
  ·exact hp.1
 ·show (if _ then _ else _)<_
  split
  ·exact Nat.or_lt_two_pow hq.2 hp.2
  ·exact hq.2
def WSp (R:Nat) (sv fv:Value) (k:Nat):Prop:=k=R∨sv.ownBlock=some k∨fv.ownBlock=some k
def NewB (w:World) (v v':Value):Prop:=∀b,v'.ownBlock=some b→v.ownBlock=some b∨w.heap.size≤b
theorem Tryz.info102:(Tryz.prog.info? 102).map (fun i=>(i.zero,i.size,i.bytes))=some (some (.int .i64 0),1,8):=by kernel_rfl
theorem Tryz.rowPt:(Tryz.prog.underlying 159).map TypeDesc.isRow=some true:=by kernel_rfl
theorem Tryz.sizePt:(Tryz.prog.info? 159).map (·.size)=some 3:=by kernel_rfl
theorem load_part {w:World} {B:Nat} {p:Pp} (h0:w.cell? ⟨B,0,none⟩=some (.int .i64 p.first)) (h1:w.cell? ⟨B,1,none⟩=some (.int .i64 p.last)) (h2:w.cell? ⟨B,2,none⟩=some (.bool p.nothing)):(loadVar 159 ⟨B,0,none⟩).run Tryz.prog w=.ok (partV p) w:=by
 obtain ⟨dd,hu,hd⟩:=Option.map_eq_some_iff.1 Tryz.rowPt
 refine run_loadVar_mid w B 0 159 [.int .i64 p.first,.int .i64 p.last,.bool p.nothing] dd ?_ hu hd Tryz.sizePt
 intro k v hv
 rw [Nat.zero_add]
 match k,hv with
 | 0,hv=>simp at hv;rw [h0,hv]
 | 1,hv=>simp at hv;rw [h1,hv]
 | 2,hv=>simp at hv;rw [h2,hv]
theorem WrM.off {w w':World} {R B:Nat} {nv sv fv:Value} {S F:List Nat} (h:WrM w R nv sv fv S F) (k:Kp (fun b=>b=B) w w') (h1:¬R=B) (h2:¬sv.ownBlock=some B) (h3:¬fv.ownBlock=some B):WrM w' R nv sv fv S F :=
 ⟨(k.cell h.lt h1).trans h.c0,(k.cell h.lt h1).trans h.c1,(k.cell h.lt h1).trans h.c2,fun o=>(k.frozen (p:=⟨R,o,none⟩) h.lt h1).trans (h.z o),owns_kp h.so k (fun g hg e=>h2 (by rw [←e];exact hg)),owns_kp h.fo k (fun g hg e=>h3 (by rw [←e];exact hg))⟩
theorem join_any (R:Nat) (p q:Pp) (hp:p.ok) (hq:q.ok) (nv sv fv:Value) (S F:List Nat) (w:World) (h:WrM w R nv sv fv S F) (hF:Sets F) (hn:F.length≤10000) :
  Calls Tryz.prog 97 #[.pointer (some ⟨R,0,none⟩),partV p,partV q] w fun e w'=>e=.returned (partV (joinS p q))∧WrM w' R nv sv fv S (followS F p.last q.first)∧Kp (fun k=>fv.ownBlock=some k) w w':=by
 obtain ⟨pf,pl,pn⟩:=p
 obtain ⟨qf,ql,qn⟩:=q
 obtain ⟨hp1,hp2⟩:=hp
 obtain ⟨hq1,hq2⟩:=hq
 simp only at hp1 hp2 hq1 hq2
 have hfb:=h.fo.lt
 have HFO:Hid (∀W,Nw w W→Calls Tryz.prog 71 #[.pointer (some ⟨R,0,none⟩),.int .i64 pl,.int .i64 qf] W fun e w'=>e=.returned (.tuple #[])∧WrM w' R nv sv fv S (followS F pl qf)∧Kp (fun k=>fv.ownBlock=some k) W w'):=fun W kW=>follow_any R pl qf nv sv fv S F W (h.nw kW) hp2 hq1 hF hn
 have HFB:Hid (∀b,fv.ownBlock=some b→b<w.heap.size):=fun b hb=>(hfb b hb).2
 have hsb:=h.so.lt
 have HSB:Hid (∀b,w.heap.size≤b→¬sv.ownBlock=some b):=fun b hb e=>by have:=(hsb b e).2;omega
 have hlt:=h.lt
 have o1:=bits_or25 pf qf hp1 hq1
 have o2:=bits_or25 ql pl hq2 hp2
 unfold partV
 clear h hfb hsb
 go_enter Tryz.func97,Tryz.ntmps97
 go_wp2_with fail
 refine (HFO.out _ ((((Kp.refl _ w).alloc _).alloc _).alloc _)).mono ?_
 rintro e w1 ⟨rfl,hw1,k1⟩
 have HW1:Hid (WrM w1 R nv sv fv S (followS F pl qf)):=hw1
 have hbx:∀B j,w.heap.size≤B→B<w.heap.size+3→w1.cell? ⟨B,j,none⟩=(((w.alloc (.cells #[.int .i64 pf,.int .i64 pl,.bool pn] 159)).alloc (.cells #[.int .i64 qf,.int .i64 ql,.bool qn] 159)).alloc (.cells #[.int .i64 0,.int .i64 0,.bool false] 159)).cell? ⟨B,j,none⟩:=by
  intro B j h0 h1
  exact k1.cell (by show B<_;simp;omega) (by show ¬fv.ownBlock=some B;intro hb;have:=HFB.out B hb;omega)
 have hbz:∀j,w1.frozen? ⟨w.heap.size+1+1,j,none⟩=false:=by
  intro j
  rw [k1.frozen (p:=⟨w.heap.size+1+1,j,none⟩) (by show w.heap.size+1+1<_;simp) (by show ¬fv.ownBlock=some (w.heap.size+1+1);intro hb;have:=HFB.out (w.heap.size+1+1) hb;omega)]
  simp [go_sem,World.frozen?_alloc_at]
 have a0:w1.cell? ⟨w.heap.size,0,none⟩=some (.int .i64 pf):=by rw [hbx _ _ (by omega) (by omega)];simp [go_sem,World.cell?_alloc_at]
 have a1:w1.cell? ⟨w.heap.size,1,none⟩=some (.int .i64 pl):=by rw [hbx _ _ (by omega) (by omega)];simp [go_sem,World.cell?_alloc_at]
 have a2:w1.cell? ⟨w.heap.size,2,none⟩=some (.bool pn):=by rw [hbx _ _ (by omega) (by omega)];simp [go_sem,World.cell?_alloc_at]
 have b0:w1.cell? ⟨w.heap.size+1,0,none⟩=some (.int .i64 qf):=by rw [hbx _ _ (by omega) (by omega)];simp [go_sem,World.cell?_alloc_at]
 have b1:w1.cell? ⟨w.heap.size+1,1,none⟩=some (.int .i64 ql):=by rw [hbx _ _ (by omega) (by omega)];simp [go_sem,World.cell?_alloc_at]
 have b2:w1.cell? ⟨w.heap.size+1,2,none⟩=some (.bool qn):=by rw [hbx _ _ (by omega) (by omega)];simp [go_sem,World.cell?_alloc_at]
 have r0:w1.cell? ⟨w.heap.size+1+1,0,none⟩=some (.int .i64 0):=by rw [hbx _ _ (by omega) (by omega)];simp [go_sem,World.cell?_alloc_at]
 have r1:w1.cell? ⟨w.heap.size+1+1,1,none⟩=some (.int .i64 0):=by rw [hbx _ _ (by omega) (by omega)];simp [go_sem,World.cell?_alloc_at]
 have r2:w1.cell? ⟨w.heap.size+1+1,2,none⟩=some (.bool false):=by rw [hbx _ _ (by omega) (by omega)];simp [go_sem,World.cell?_alloc_at]
 have hl1:w.heap.size+1+1<w1.heap.size:=by have:=k1.size;simp at this;omega
 have K1:Hid (Kp (fun k=>fv.ownBlock=some k) w w1):=((((Kp.refl _ w).alloc _).alloc _).alloc _).trans k1
 have l0:w.heap.size<w1.heap.size:=by omega
 have l1:w.heap.size+1<w1.heap.size:=by omega
 have n0:¬w.heap.size=w1.heap.size:=by omega
 have n1:¬w.heap.size+1=w1.heap.size:=by omega
 have n2:¬w.heap.size+1+1=w1.heap.size:=by omega
 have HFIN:Hid (∀(x0 x1 x2:Value) (o:Obj),WrM ((((w1.setCell ⟨w.heap.size+1+1,0,none⟩ x0).setCell ⟨w.heap.size+1+1,1,none⟩ x1).setCell ⟨w.heap.size+1+1,2,none⟩ x2).alloc o) R nv sv fv S (followS F pl qf)∧Kp (fun k=>fv.ownBlock=some k) w ((((w1.setCell ⟨w.heap.size+1+1,0,none⟩ x0).setCell ⟨w.heap.size+1+1,1,none⟩ x1).setCell ⟨w.heap.size+1+1,2,none⟩ x2).alloc o)):=by
  intro x0 x1 x2 o
  have kk:Kp (fun k=>k=w.heap.size+1+1) w1 ((((w1.setCell ⟨w.heap.size+1+1,0,none⟩ x0).setCell ⟨w.heap.size+1+1,1,none⟩ x1).setCell ⟨w.heap.size+1+1,2,none⟩ x2).alloc o):=((((Kp.refl (fun k=>k=w.heap.size+1+1) w1).setCell (p:=⟨w.heap.size+1+1,0,none⟩) (Or.inr rfl) _).setCell (p:=⟨w.heap.size+1+1,1,none⟩) (Or.inr rfl) _).setCell (p:=⟨w.heap.size+1+1,2,none⟩) (Or.inr rfl) _).alloc o
  exact ⟨HW1.out.off kk (by omega) (HSB.out _ (by omega)) (by intro e;have:=HFB.out _ e;omega),K1.out.trans' kk (by intro i hi e;omega)⟩
 clear hbx hw1 k1
 have HLD:Hid (∀(y:Pp) (o:Obj),(loadVar 159 ⟨w.heap.size+1+1,0,none⟩).run Tryz.prog ((((w1.setCell ⟨w.heap.size+1+1,0,none⟩ (.int .i64 y.first)).setCell ⟨w.heap.size+1+1,1,none⟩ (.int .i64 y.last)).setCell ⟨w.heap.size+1+1,2,none⟩ (.bool y.nothing)).alloc o)=.ok (partV y) ((((w1.setCell ⟨w.heap.size+1+1,0,none⟩ (.int .i64 y.first)).setCell ⟨w.heap.size+1+1,1,none⟩ (.int .i64 y.last)).setCell ⟨w.heap.size+1+1,2,none⟩ (.bool y.nothing)).alloc o)):=by
  intro y o
  refine load_part ?_ ?_ ?_
  ·simp [go_sem,r0,r1,r2,n2,hl1]
  ·simp [go_sem,r0,r1,r2,n2,hl1]
  ·simp [go_sem,r0,r1,r2,n2,hl1]
 cases pn with
 | true =>
  cases qn with
  | true =>
   go_wp2
   refine bodyPost_ret (results_cX Tryz.results97 _ _ _ ⟨w.heap.size+1+1,0,none⟩ rfl _ (HLD.out ⟨pf ||| qf,ql ||| pl,true⟩ _)) rfl ?_
   exact ⟨rfl,(HFIN.out _ _ _ _).1,(HFIN.out _ _ _ _).2⟩
  | false =>
   go_wp2
   refine bodyPost_ret (results_cX Tryz.results97 _ _ _ ⟨w.heap.size+1+1,0,none⟩ rfl _ (HLD.out ⟨pf ||| qf,ql,false⟩ _)) rfl ?_
   exact ⟨rfl,(HFIN.out _ _ _ _).1,(HFIN.out _ _ _ _).2⟩
 | false =>
  cases qn with
  | true =>
   go_wp2
   refine bodyPost_ret (results_cX Tryz.results97 _ _ _ ⟨w.heap.size+1+1,0,none⟩ rfl _ (HLD.out ⟨pf,ql ||| pl,false⟩ _)) rfl ?_
   exact ⟨rfl,(HFIN.out _ _ _ _).1,(HFIN.out _ _ _ _).2⟩
  | false =>
   go_wp2
   refine bodyPost_ret (results_cX Tryz.results97 _ _ _ ⟨w.heap.size+1+1,0,none⟩ rfl _ (HLD.out ⟨pf,ql,false⟩ _)) rfl ?_
   exact ⟨rfl,(HFIN.out _ _ _ _).1,(HFIN.out _ _ _ _).2⟩
def WrPost (w:World) (R:Nat) (nv sv fv:Value) (p:Pp) (S F:List Nat) (e:Ending) (w':World):Prop :=
 ∃sv' fv',e=.returned (partV p)∧WrM w' R nv sv' fv' S F∧Kp (WSp R sv fv) w w'∧NewB w sv sv'∧NewB w fv fv'
theorem WrM.grow1 {w w':World} {R:Nat} {nv sv fv sv':Value} {S S' F:List Nat} (h:WrM w R nv sv fv S F) (k:Kp (fun b=>sv.ownBlock=some b) w w') (o:w'.ownsRow (R+1) 3 1 sv' S'.length (intsV S')):WrM (w'.setCell ⟨R,1,none⟩ sv') R nv sv' fv S' F:=by
 have hl:=h.lt
 have hsb:=h.so.lt
 have hR:¬sv.ownBlock=some R:=by intro e;have:=(hsb R e).1;omega
 have c0:=(k.cell (p:=⟨R,0,none⟩) hl hR).trans h.c0
 have c1:=(k.cell (p:=⟨R,1,none⟩) hl hR).trans h.c1
 have c2:=(k.cell (p:=⟨R,2,none⟩) hl hR).trans h.c2
 have z:∀o,w'.frozen? ⟨R,o,none⟩=false:=fun o=>(k.frozen (p:=⟨R,o,none⟩) hl hR).trans (h.z o)
 have kk:Kp (fun b=>b=R∨sv.ownBlock=some b) w (w'.setCell ⟨R,1,none⟩ sv'):=Kp.setCell (S:=fun b=>b=R∨sv.ownBlock=some b) (k.mono (fun b _ e=>Or.inr e)) (p:=⟨R,1,none⟩) (Or.inr (Or.inl rfl)) _
 exact ⟨by simp [go_sem,c0],by simp [go_sem,c1],by simp [go_sem,c2],fun o=>by simp [go_sem,z],ownsRow_setCell_below o (a:=⟨R,1,none⟩) (Nat.lt_succ_self R) _,ownsRow_apart h.fo h.so (by decide) (Nat.lt_succ_self R) kk⟩
theorem WrM.grow2 {w w':World} {R:Nat} {nv sv fv fv':Value} {S F F':List Nat} (h:WrM w R nv sv fv S F) (k:Kp (fun b=>fv.ownBlock=some b) w w') (o:w'.ownsRow (R+1) 102 1 fv' F'.length (intsV F')):WrM (w'.setCell ⟨R,2,none⟩ fv') R nv sv fv' S F':=by
 have hl:=h.lt
 have hsb:=h.fo.lt
 have hR:¬fv.ownBlock=some R:=by intro e;have:=(hsb R e).1;omega
 have c0:=(k.cell (p:=⟨R,0,none⟩) hl hR).trans h.c0
 have c1:=(k.cell (p:=⟨R,1,none⟩) hl hR).trans h.c1
 have c2:=(k.cell (p:=⟨R,2,none⟩) hl hR).trans h.c2
 have z:∀o,w'.frozen? ⟨R,o,none⟩=false:=fun o=>(k.frozen (p:=⟨R,o,none⟩) hl hR).trans (h.z o)
 have kk:Kp (fun b=>b=R∨fv.ownBlock=some b) w (w'.setCell ⟨R,2,none⟩ fv'):=Kp.setCell (S:=fun b=>b=R∨fv.ownBlock=some b) (k.mono (fun b _ e=>Or.inr e)) (p:=⟨R,2,none⟩) (Or.inr (Or.inl rfl)) _
 exact ⟨by simp [go_sem,c0],by simp [go_sem,c1],by simp [go_sem,c2],fun o=>by simp [go_sem,z],ownsRow_apart h.so h.fo (by decide) (Nat.lt_succ_self R) kk,ownsRow_setCell_below o (a:=⟨R,2,none⟩) (Nat.lt_succ_self R) _⟩
theorem writeStep_any (R st:Nat) (nv sv fv:Value) (S F:List Nat) (w:World) (h:WrM w R nv sv fv S F) (hS:S.length≤10000) (hF:F.length≤10000) :
  Calls Tryz.prog 96 #[.pointer (some ⟨R,0,none⟩),.int .i64 st] w (WrPost w R nv sv fv ⟨onlyS S.length,onlyS S.length,false⟩ (S++[st]) (F++[0])):=by
 obtain ⟨sp,sc,rfl⟩:∃p c,sv=.slice p S.length c:=by obtain ⟨p,c,h⟩:=ownsLenX h.so;exact ⟨p,c,h⟩
 have H:Hid (WrM w R nv (.slice sp S.length sc) fv S F):=h
 have hlt:=h.lt
 have c1:=h.c1
 have hne:¬R=w.heap.size:=by omega
 obtain ⟨i1,hi1,hy0,hy1,hy2⟩:=info_parts Tryz.info3
 clear h
 go_enter Tryz.func96,Tryz.ntmps96
 go_wp2_with fail
 refine (onlyS_any S.length _ (by omega)).mono ?_
 rintro e w1 ⟨rfl,hw1⟩
 have hw2:=hw1.symm
 subst hw2
 clear hw1
 go_wp2_with (at_builtin;refine wpList_append_lies _ rfl _ _ 22 rfl (R+1) 3 i1 (.int .i64 0) 1 8 Tryz.underlying22 hi1 hy0 hy1 hy2 rfl (by decide) _ _ _ rfl ((H.out.so.alloc _).alloc _) ⟨w.heap.size+1,0,none⟩ 1 1 [.int .i64 (st:Int)] rfl rfl ?c1 ?c2 (by decide) ?c3 ?c4 ?c5 _ rfl ?_)
 case c1=>exact news_one _ (by simp) _ _
 case c2=>exact intsV_one [st]
 case c3=>unfold maxLen;omega
 case c4=>omega
 case c5=>simp;omega
 intro g3 cap3 w3 hown3 hgrow hat hlt3
 have kg:Kp (fun b=>(slice sp S.length sc).ownBlock=some b) w w3:=(((Kp.refl _ w).alloc _).alloc _).grown hgrow (fun b hb=>Or.inr hb)
 have O3:w3.ownsRow (R+1) 3 1 (.slice (some ⟨g3,0,none⟩) (S.length+1) cap3) (S++[st]).length (intsV (S++[st])):=by
  have e1:(S++[st]).length=S.length+1:=by simp
  have e2:intsV (S++[st])=intsV S++[.int .i64 (st:Int)]:=by simp [intsV]
  rw [e1,e2];exact hown3
 have hsb:=H.out.so.lt
 have hfb:=H.out.fo.lt
 have hRs:¬(slice sp S.length sc).ownBlock=some R:=by intro e;have:=(hsb R e).1;omega
 have M3:Hid (WrM (w3.setCell ⟨R,1,none⟩ (.slice (some ⟨g3,0,none⟩) (S.length+1) cap3)) R nv (.slice (some ⟨g3,0,none⟩) (S.length+1) cap3) fv (S++[st]) F):=H.out.grow1 kg O3
 have d1:=(kg.cell (p:=⟨R,1,none⟩) hlt hRs).trans H.out.c1
 have d2:=(kg.cell (p:=⟨R,2,none⟩) hlt hRs).trans H.out.c2
 have dz:∀o,w3.frozen? ⟨R,o,none⟩=false:=fun o=>(kg.frozen (p:=⟨R,o,none⟩) hlt hRs).trans (H.out.z o)
 obtain ⟨fp,fc,rfl⟩:∃p c,fv=.slice p F.length c:=by obtain ⟨p,c,h⟩:=ownsLenX H.out.fo;exact ⟨p,c,h⟩
 have hl3:w.heap.size+2≤w3.heap.size:=by have:=hgrow.size;simp at this;omega
 have N3:Hid (NewB w (.slice sp S.length sc) (.slice (some ⟨g3,0,none⟩) (S.length+1) cap3)):=by
  intro b hb
  simp [Value.ownBlock] at hb
  subst hb
  rcases hat with e|e
  ·exact Or.inl e
  ·exact Or.inr (by omega)
 have K3:Hid (Kp (WSp R (.slice sp S.length sc) (.slice fp F.length fc)) w (w3.setCell ⟨R,1,none⟩ (.slice (some ⟨g3,0,none⟩) (S.length+1) cap3))):=Kp.setCell (S:=WSp R (.slice sp S.length sc) (.slice fp F.length fc)) (kg.mono (fun b _ e=>Or.inr (Or.inl e))) (p:=⟨R,1,none⟩) (Or.inr (Or.inl rfl)) _
 have hbox:∀j v,#[int .i64 0,.int .i64 0,.bool false][j]? = some v→w3.cell? ⟨w.heap.size,j,none⟩=some v:=by
  intro j v hv
  rw [hgrow.cell_far ⟨w.heap.size,j,none⟩ (by simp;omega) (by intro e;have:=(hsb w.heap.size e.symm).2;omega),←hv]
  simp [go_sem,World.cell?_alloc_at]
 have x0:=hbox 0 _ rfl
 have x1:=hbox 1 _ rfl
 have x2:=hbox 2 _ rfl
 have xz:∀o,w3.frozen? ⟨w.heap.size,o,none⟩=false:=by
  intro o
  rw [hgrow.frozen_far ⟨w.heap.size,o,none⟩ (by simp;omega) (by intro e;have:=(hsb w.heap.size e.symm).2;omega)]
  simp [go_sem,World.frozen?_alloc_at]
 have hg3:¬(slice (some ⟨g3,0,none⟩) (S.length+1) cap3).ownBlock=some w.heap.size:=by
  intro e
  simp [Value.ownBlock] at e
  subst e
  rcases hat with h|h
  ·have:=(hsb _ h).2;omega
  ·omega
 have HG3:Hid (¬(slice (some ⟨g3,0,none⟩) (S.length+1) cap3).ownBlock=some w.heap.size):=hg3
 clear hown3 hgrow hat kg O3 hbox c1 hg3
 obtain ⟨i2,hi2,hx0,hx1,hx2⟩:=info_parts Tryz.info102
 go_wp2_with (at_builtin;refine wpList_append_lies _ rfl _ _ 103 rfl (R+1) 102 i2 (.int .i64 0) 1 8 Tryz.underlying103 hi2 hx0 hx1 hx2 rfl (by decide) _ _ _ rfl (M3.out.fo.alloc _) ⟨w3.heap.size,0,none⟩ 1 1 [.int .i64 0] rfl rfl ?c1 ?c2 (by decide) ?c3 ?c4 ?c5 _ rfl ?_)
 case c1=>exact news_one _ (by simp) _ _
 case c2=>exact intsV_one [0]
 case c3=>unfold maxLen;omega
 case c4=>omega
 case c5=>simp;omega
 intro g4 cap4 w4 hown4 hgrow4 hat4 hlt4
 have kg4:Kp (fun b=>(slice fp F.length fc).ownBlock=some b) (w3.setCell ⟨R,1,none⟩ (.slice (some ⟨g3,0,none⟩) (S.length+1) cap3)) w4:=((Kp.refl _ _).alloc _).grown hgrow4 (fun b hb=>Or.inr hb)
 have O4:w4.ownsRow (R+1) 102 1 (.slice (some ⟨g4,0,none⟩) (F.length+1) cap4) (F++[0]).length (intsV (F++[0])):=by
  have e1:(F++[0]).length=F.length+1:=by simp
  have e2:intsV (F++[0])=intsV F++[.int .i64 0]:=by simp [intsV]
  rw [e1,e2];exact hown4
 have hRf:¬(slice fp F.length fc).ownBlock=some R:=by intro e;have:=(hfb R e).1;omega
 have hBf:¬(slice fp F.length fc).ownBlock=some w.heap.size:=by intro e;have:=(hfb _ e).2;omega
 have M4:Hid (WrM (w4.setCell ⟨R,2,none⟩ (.slice (some ⟨g4,0,none⟩) (F.length+1) cap4)) R nv (.slice (some ⟨g3,0,none⟩) (S.length+1) cap3) (.slice (some ⟨g4,0,none⟩) (F.length+1) cap4) (S++[st]) (F++[0])):=M3.out.grow2 kg4 O4
 have hs3:(w3.setCell ⟨R,1,none⟩ (.slice (some ⟨g3,0,none⟩) (S.length+1) cap3)).heap.size=w3.heap.size:=by simp
 have e2:=(kg4.cell (p:=⟨R,2,none⟩) (by rw [hs3];show R<_;omega) hRf).trans M3.out.c2
 have ez:∀o,w4.frozen? ⟨R,o,none⟩=false:=fun o=>(kg4.frozen (p:=⟨R,o,none⟩) (by rw [hs3];show R<_;omega) hRf).trans (M3.out.z o)
 have hRB:¬R=w.heap.size:=by omega
 have hBR:¬w.heap.size=R:=by omega
 have y0:w4.cell? ⟨w.heap.size,0,none⟩=some (.int .i64 0):=by rw [kg4.cell (p:=⟨w.heap.size,0,none⟩) (by rw [hs3];show w.heap.size<_;omega) hBf];simp [go_sem,x0,hRB,hBR]
 have y1:w4.cell? ⟨w.heap.size,1,none⟩=some (.int .i64 0):=by rw [kg4.cell (p:=⟨w.heap.size,1,none⟩) (by rw [hs3];show w.heap.size<_;omega) hBf];simp [go_sem,x1,hRB,hBR]
 have y2:w4.cell? ⟨w.heap.size,2,none⟩=some (.bool false):=by rw [kg4.cell (p:=⟨w.heap.size,2,none⟩) (by rw [hs3];show w.heap.size<_;omega) hBf];simp [go_sem,x2,hRB,hBR]
 have yz:∀o,w4.frozen? ⟨w.heap.size,o,none⟩=false:=by
  intro o
  rw [kg4.frozen (p:=⟨w.heap.size,o,none⟩) (by rw [hs3];show w.heap.size<_;omega) hBf];simp [go_sem,xz]
 have N4:Hid (NewB w (.slice fp F.length fc) (.slice (some ⟨g4,0,none⟩) (F.length+1) cap4)):=by
  intro b hb
  simp [Value.ownBlock] at hb
  subst hb
  rcases hat4 with e|e
  ·exact Or.inl e
  ·exact Or.inr (by omega)
 have K4:Hid (Kp (WSp R (.slice sp S.length sc) (.slice fp F.length fc)) w (w4.setCell ⟨R,2,none⟩ (.slice (some ⟨g4,0,none⟩) (F.length+1) cap4))):=Kp.setCell (S:=WSp R (.slice sp S.length sc) (.slice fp F.length fc)) (K3.out.trans' kg4 (fun b _ e=>Or.inr (Or.inr e))) (p:=⟨R,2,none⟩) (Or.inr (Or.inl rfl)) _
 have HG4:Hid (¬(slice (some ⟨g4,0,none⟩) (F.length+1) cap4).ownBlock=some w.heap.size):=by
  intro e
  simp [Value.ownBlock] at e
  subst e
  rcases hat4 with h|h
  ·exact hBf h
  ·omega
 clear hown4 hgrow4 hat4 kg4 O4 x0 x1 x2 xz d1 d2 dz
 go_wp2
 refine bodyPost_ret (results_cX Tryz.results96 _ _ _ ⟨w.heap.size,0,none⟩ rfl _ (load_part (p:=⟨onlyS S.length,onlyS S.length,false⟩) ?q0 ?q1 ?q2)) rfl ?_
 case q0=>simp [go_sem,y0,y1,y2,hRB,hBR]
 case q1=>simp [go_sem,y0,y1,y2,hRB,hBR]
 case q2=>simp [go_sem,y0,y1,y2,hRB,hBR]
 have kk:Kp (fun b=>b=w.heap.size) (w4.setCell ⟨R,2,none⟩ (.slice (some ⟨g4,0,none⟩) (F.length+1) cap4)) ((((w4.setCell ⟨R,2,none⟩ (.slice (some ⟨g4,0,none⟩) (F.length+1) cap4)).setCell ⟨w.heap.size,0,none⟩ (.int .i64 (onlyS S.length:Nat))).setCell ⟨w.heap.size,1,none⟩ (.int .i64 (onlyS S.length:Nat))).setCell ⟨w.heap.size,2,none⟩ (.bool false)):=(((Kp.refl (fun b=>b=w.heap.size) _).setCell (p:=⟨w.heap.size,0,none⟩) (Or.inr rfl) _).setCell (p:=⟨w.heap.size,1,none⟩) (Or.inr rfl) _).setCell (p:=⟨w.heap.size,2,none⟩) (Or.inr rfl) _
 exact ⟨_,_,rfl,M4.out.off kk hRB HG3.out HG4.out,K4.out.trans' kk (by intro b hb e;omega),N3.out,N4.out⟩
def Nt.subs:Nt→Nat→Nat→List (Nt×Nat×Nat)
 | .one s,n,st=>[(.one s,n,st)]
 | .two op l r,n,st=>l.subs n st++(r.subs (n+l.size) (st+l.steps.length)++[(.two op l r,n,st)])
 | .rnd lo hi b,n,st=>b.subs n st++[(.rnd lo hi b,n,st)]
def Nt.root:Nt→Nat→Nat→Nd
 | .one _,_,st=>⟨0,st,0,0,0,0⟩
 | .two op l r,n,_=>⟨op,0,((n+l.size:Nat):Int) - 1,((n+l.size+r.size:Nat):Int) - 1,0,0⟩
 | .rnd lo hi b,n,_=>⟨3,0,((n+b.size:Nat):Int) - 1,0,lo,hi⟩
theorem Nt.subs_length:∀(t:Nt) (n st:Nat),(t.subs n st).length=t.size:=by
 intro t
 induction t with
 | one s=>intro n st;rfl
 | two op l r hl hr=>intro n st;simp [Nt.subs,Nt.size,hl,hr];omega
 | rnd lo hi b hb=>intro n st;simp [Nt.subs,Nt.size,hb]
theorem Nt.nd_subs:∀(t:Nt) (n st:Nat),t.nd n st=(t.subs n st).map (fun x=>x.1.root x.2.1 x.2.2):=by
 intro t
 induction t with
 | one s=>intro n st;rfl
 | two op l r hl hr=>intro n st;simp [Nt.nd,Nt.subs,hl,hr,Nt.root]
 | rnd lo hi b hb=>intro n st;simp [Nt.nd,Nt.subs,hb,Nt.root]
theorem Nt.subs_last:∀(t:Nt) (n st:Nat),(t.subs n st)[t.size - 1]? = some (t,n,st):=by
 intro t n st
 cases t with
 | one s=>rfl
 | two op l r =>
  simp only [Nt.subs,Nt.size]
  rw [←List.append_assoc,List.getElem?_append_right (by simp [Nt.subs_length])]
  have:l.size+r.size+1 - 1 - (l.subs n st++r.subs (n+l.size) (st+l.steps.length)).length=0:=by simp [Nt.subs_length]
  rw [this];rfl
 | rnd lo hi b =>
  simp only [Nt.subs,Nt.size]
  rw [List.getElem?_append_right (by simp [Nt.subs_length])]
  have:b.size+1 - 1 - (b.subs n st).length=0:=by simp [Nt.subs_length]
  rw [this];rfl
structure SubOk (t:Nt) (n st i:Nat) (u:Nt) (m k:Nat):Prop where
 idx:m+u.size=n+i+1
 ge:n≤m
 sge:st≤k
 sle:k+u.steps.length≤st+t.steps.length
 steps:∀j s,u.steps[j]? = some s→t.steps[k - st+j]? = some s
 two:∀op l r,u=.two op l r→(t.subs n st)[m+l.size - 1 - n]? = some (l,m,k)∧(t.subs n st)[m+l.size+r.size - 1 - n]? = some (r,m+l.size,k+l.steps.length)
 rnd:∀lo hi b,u=.rnd lo hi b→(t.subs n st)[m+b.size - 1 - n]? = some (b,m,k)
theorem SubOk.self (t:Nt) (n st:Nat):SubOk t n st (t.size - 1) t n st:=by
 have hp:=t.size_pos
 refine ⟨by omega,Nat.le_refl _,Nat.le_refl _,Nat.le_refl _,by simp,?_,?_⟩
 ·rintro op l r rfl
  have hl:=l.size_pos
  have hr:=r.size_pos
  simp only [Nt.subs]
  constructor
  ·rw [List.getElem?_append_left (by rw [Nt.subs_length];omega)]
   have:n+l.size - 1 - n=l.size - 1:=by omega
   rw [this];exact l.subs_last n st
  ·rw [List.getElem?_append_right (by rw [Nt.subs_length];omega),List.getElem?_append_left (by simp only [Nt.subs_length];omega)]
   have:n+l.size+r.size - 1 - n - (l.subs n st).length=r.size - 1:=by rw [Nt.subs_length];omega
   rw [this];exact r.subs_last _ _
 ·rintro lo hi b rfl
  have hb:=b.size_pos
  simp only [Nt.subs]
  rw [List.getElem?_append_left (by rw [Nt.subs_length];omega)]
  have:n+b.size - 1 - n=b.size - 1:=by omega
  rw [this];exact b.subs_last n st
theorem Nt.subs_ok:∀(t:Nt) (n st i:Nat) (u:Nt) (m k:Nat),(t.subs n st)[i]? = some (u,m,k)→SubOk t n st i u m k:=by
 intro t
 induction t with
 | one s =>
  intro n st i u m k h
  cases i with
  | zero=>simp [Nt.subs] at h;obtain ⟨rfl,rfl,rfl⟩:=h;exact SubOk.self (.one s) n st
  | succ i=>simp [Nt.subs] at h
 | two op l r hl hr =>
  intro n st i u m k h
  by_cases h1:i<l.size
  ·have h':(l.subs n st)[i]? = some (u,m,k):=by
    simp only [Nt.subs] at h
    rwa [List.getElem?_append_left (by rw [Nt.subs_length];exact h1)] at h
   have o:=hl n st i u m k h'
   have hmu:=o.idx
   refine ⟨o.idx,o.ge,o.sge,by have:=o.sle;simp [Nt.steps];omega,?_,?_,?_⟩
   ·intro j s hs
    have:=o.steps j s hs
    simp only [Nt.steps]
    rw [List.getElem?_append_left (List.getElem?_eq_some_iff.1 this).1];exact this
   ·intro op' l' r' e
    obtain ⟨a,b⟩:=o.two op' l' r' e
    subst e
    simp only [Nt.size] at hmu
    simp only [Nt.subs]
    exact ⟨by rw [List.getElem?_append_left (by rw [Nt.subs_length];omega)];exact a,by rw [List.getElem?_append_left (by rw [Nt.subs_length];omega)];exact b⟩
   ·intro lo hi b e
    have a:=o.rnd lo hi b e
    subst e
    simp only [Nt.size] at hmu
    simp only [Nt.subs]
    rw [List.getElem?_append_left (by rw [Nt.subs_length];omega)];exact a
  ·by_cases h2:i<l.size+r.size
   ·have h':(r.subs (n+l.size) (st+l.steps.length))[i - l.size]? = some (u,m,k):=by
     simp only [Nt.subs] at h
     rw [List.getElem?_append_right (by rw [Nt.subs_length];omega),Nt.subs_length,List.getElem?_append_left (by rw [Nt.subs_length];omega)] at h
     exact h
    have o:=hr _ _ _ u m k h'
    have hmu:=o.idx
    have hge:=o.ge
    have hsge:=o.sge
    refine ⟨by omega,by omega,by omega,by have:=o.sle;simp [Nt.steps];omega,?_,?_,?_⟩
    ·intro j s hs
     have:=o.steps j s hs
     simp only [Nt.steps]
     rw [List.getElem?_append_right (by omega)]
     have e:k - st+j - l.steps.length=k - (st+l.steps.length)+j:=by omega
     rw [e];exact this
    ·intro op' l' r' e
     obtain ⟨a,b⟩:=o.two op' l' r' e
     subst e
     simp only [Nt.size] at hmu
     have hl':=l'.size_pos
     have hr':=r'.size_pos
     simp only [Nt.subs]
     constructor
     ·rw [List.getElem?_append_right (by rw [Nt.subs_length];omega),Nt.subs_length,List.getElem?_append_left (by rw [Nt.subs_length];omega)]
      have e:m+l'.size - 1 - n - l.size=m+l'.size - 1 - (n+l.size):=by omega
      rw [e];exact a
     ·rw [List.getElem?_append_right (by rw [Nt.subs_length];omega),Nt.subs_length,List.getElem?_append_left (by rw [Nt.subs_length];omega)]
      have e:m+l'.size+r'.size - 1 - n - l.size=m+l'.size+r'.size - 1 - (n+l.size):=by omega
      rw [e];exact b
    ·intro lo hi b e
     have a:=o.rnd lo hi b e
     subst e
     simp only [Nt.size] at hmu
     have hb':=b.size_pos
     simp only [Nt.subs]
     rw [List.getElem?_append_right (by rw [Nt.subs_length];omega),Nt.subs_length,List.getElem?_append_left (by rw [Nt.subs_length];omega)]
     have e:m+b.size - 1 - n - l.size=m+b.size - 1 - (n+l.size):=by omega
     rw [e];exact a
   ·have hi:i<(Nt.two op l r).size:=by rw [←Nt.subs_length (Nt.two op l r) n st];exact (List.getElem?_eq_some_iff.1 h).1
    have e:i=(Nt.two op l r).size - 1:=by simp only [Nt.size] at hi ⊢;omega
    rw [e,Nt.subs_last] at h
    simp only [Option.some.injEq,Prod.mk.injEq] at h
    obtain ⟨rfl,rfl,rfl⟩:=h
    rw [e];exact SubOk.self _ _ _
 | rnd lo hi b hb =>
  intro n st i u m k h
  by_cases h1:i<b.size
  ·have h':(b.subs n st)[i]? = some (u,m,k):=by
    simp only [Nt.subs] at h
    rwa [List.getElem?_append_left (by rw [Nt.subs_length];exact h1)] at h
   have o:=hb n st i u m k h'
   have hmu:=o.idx
   refine ⟨o.idx,o.ge,o.sge,by have:=o.sle;simp [Nt.steps];omega,?_,?_,?_⟩
   ·intro j s hs;exact o.steps j s hs
   ·intro op' l' r' e
    obtain ⟨a,c⟩:=o.two op' l' r' e
    subst e
    simp only [Nt.size] at hmu
    simp only [Nt.subs]
    exact ⟨by rw [List.getElem?_append_left (by rw [Nt.subs_length];omega)];exact a,by rw [List.getElem?_append_left (by rw [Nt.subs_length];omega)];exact c⟩
   ·intro lo' hi' b' e
    have a:=o.rnd lo' hi' b' e
    subst e
    simp only [Nt.size] at hmu
    simp only [Nt.subs]
    rw [List.getElem?_append_left (by rw [Nt.subs_length];omega)];exact a
  ·have hi':i<(Nt.rnd lo hi b).size:=by rw [←Nt.subs_length (Nt.rnd lo hi b) n st];exact (List.getElem?_eq_some_iff.1 h).1
   have e:i=(Nt.rnd lo hi b).size - 1:=by simp only [Nt.size] at hi' ⊢;omega
   rw [e,Nt.subs_last] at h
   simp only [Option.some.injEq,Prod.mk.injEq] at h
   obtain ⟨rfl,rfl,rfl⟩:=h
   rw [e];exact SubOk.self _ _ _
def Nt.hand:Nt→Hand
 | .one _=>Hand.one
 | .two op l r=>if op=1 then l.hand.andThen r.hand else l.hand.orElse r.hand
 | .rnd _ _ b=>b.hand.round
theorem Nt.hand_cnt:∀t:Nt,t.hand.cnt=t.steps.length:=by
 intro t
 induction t with
 | one s=>rfl
 | two op l r hl hr =>
  simp only [Nt.hand,Nt.steps]
  split <;> simp [Hand.andThen,Hand.orElse,hl,hr]
 | rnd lo hi b hb=>simp [Nt.hand,Nt.steps,Hand.round,hb]
structure IsSet (m:Nat) (S:Int→Bool):Prop where
 lt:m<2 ^ 26
 mem:∀x:Nat,x<26→m.testBit x=S x
theorem IsSet.zero:IsSet 0 (fun _=>false):=⟨by omega,by simp⟩
theorem IsSet.only (n:Int):IsSet (onlyN n) (fun x=>decide (n=x)):=by
 refine ⟨onlyN_lt n,fun x hx => ?_⟩
 unfold onlyN
 split
 ·rename_i h
  by_cases e:n=x
  ·subst e;simp
  ·rw [Nat.testBit_two_pow_of_ne (by omega)]
   simp [e]
 ·rename_i h
  rw [Nat.zero_testBit]
  have:¬n=x:=by omega
  simp [this]
theorem IsSet.or {a b:Nat} {S T:Int→Bool} (h:IsSet a S) (k:IsSet b T):IsSet (a ||| b) (fun x=>S x||T x) :=
 ⟨Nat.or_lt_two_pow h.lt k.lt,fun x hx=>by rw [Nat.testBit_or,h.mem x hx,k.mem x hx]⟩
theorem IsSet.and {a b:Nat} {S T:Int→Bool} (h:IsSet a S) (k:IsSet b T):IsSet (a &&& b) (fun x=>S x&&T x) :=
 ⟨Nat.and_lt_two_pow a k.lt,fun x hx=>by rw [Nat.testBit_and,h.mem x hx,k.mem x hx]⟩
theorem IsSet.has {m:Nat} {S:Int→Bool} (h:IsSet m S) (n:Int) (h0:0≤n) (h1:n<26):hasN m n=S n:=by
 obtain ⟨k,rfl⟩:∃k:Nat,n=k:=⟨n.toNat,by omega⟩
 rw [hasN_iff m k (by omega),h.mem k (by omega)]
structure AddIs (nm:Nat→Int) (u:Nt) (k a b:Nat):Prop where
 maybe:IsSet a (fun x=>u.hand.addM nm x k)
 surely:IsSet b (fun x=>u.hand.addS nm x k)
theorem AddIs.one (nm:Nat→Int) (s:St) (k:Nat):AddIs nm (.one s) k (onlyN (nm k)) (onlyN (nm k)):=⟨IsSet.only _,IsSet.only _⟩
theorem AddIs.rnd (nm:Nat→Int) (lo hi:Int) (b:Nt) (k:Nat):AddIs nm (.rnd lo hi b) k 0 0:=⟨IsSet.zero,IsSet.zero⟩
theorem AddIs.then {nm:Nat→Int} {l r:Nt} {k a b c d:Nat} (h:AddIs nm l k a b) (h':AddIs nm r (k+l.steps.length) c d):AddIs nm (.two 1 l r) k (a ||| c) (b ||| d):=by
 have e:=l.hand_cnt
 refine ⟨?_,?_⟩
 ·have:=h.maybe.or h'.maybe
  simp only [Nt.hand,if_true,Hand.andThen,e];exact this
 ·have:=h.surely.or h'.surely
  simp only [Nt.hand,if_true,Hand.andThen,e];exact this
theorem AddIs.either {nm:Nat→Int} {l r:Nt} {k a b c d:Nat} (h:AddIs nm l k a b) (h':AddIs nm r (k+l.steps.length) c d):AddIs nm (.two 2 l r) k (a ||| c) (b &&& d):=by
 have e:=l.hand_cnt
 refine ⟨?_,?_⟩
 ·have:=h.maybe.or h'.maybe
  simp only [Nt.hand,Hand.orElse,e];exact this
 ·have:=h.surely.and h'.surely
  simp only [Nt.hand,Hand.orElse,e];exact this
end Go.Proofs.YtcboiapggnmpfaaGreatDoor
