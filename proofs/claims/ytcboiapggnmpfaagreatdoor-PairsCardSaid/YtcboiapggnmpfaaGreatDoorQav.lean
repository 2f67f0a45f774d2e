import Derived.Test.YtcboiapggnmpfaaGreatDoorQau
import Derived.Test.YtcboiapggnmpfaaGreatDoorQae
import Derived.Test.YtcboiapggnmpfaaGreatDoorQan
namespace Go.Proofs.YtcboiapggnmpfaaGreatDoor
set_option maxRecDepth 100000
set_option maxHeartbeats 4000000
set_option linter.unusedSimpArgs false
set_option linter.unusedVariables false
open Go.RowKit
open Value (slice)
def plS (T:Nt):List Nat:=(wrS T 0 ([],[])).2.1
def plF (T:Nt):Nat:=(wrS T 0 ([],[])).1.first
def plN (T:Nt):List Nat:=followS (wrS T 0 ([],[])).2.2 (wrS T 0 ([],[])).1.last (onlyS (plS T).length)
theorem pl_ok (T:Nt):(plS T).length=T.lenN∧(plN T).length=T.lenN∧plF T<2 ^ 25∧Sets (plN T):=by
 have h0:WOk ([],[]) 0:=⟨rfl,rfl,fun x hx=>by cases hx⟩
 have h1:=(wrS_ok T 0).part _ _ h0
 have h2:=(wrS_ok T 0).more _ _ h0
 refine ⟨by have:=h2.s;rw [Nat.zero_add] at this;exact this,?_,h1.1,followS_sets h2.sets (onlyS_lt _)⟩
 unfold plN
 rw [followS_len]
 have:=h2.f
 rw [Nat.zero_add] at this;exact this
def OutL (T:Nt) (w:World) (e:Ending) (w':World):Prop :=
 ∃sv fv,e=.returned (.agg #[sv,.int .i64 (plF T),fv])∧w'.ownsRow w.heap.size 3 1 sv (plS T).length (intsV (plS T))∧w'.ownsRow w.heap.size 102 1 fv (plN T).length (intsV (plN T))∧Nw w w'
theorem Tryz.rowLi:(Tryz.prog.underlying 105).map TypeDesc.isRow=some true:=by kernel_rfl
theorem Tryz.sizeLi:(Tryz.prog.info? 105).map (·.size)=some 3:=by kernel_rfl
theorem load_list {w:World} {B:Nat} {a b c:Value} (h0:w.cell? ⟨B,0,none⟩=some a) (h1:w.cell? ⟨B,1,none⟩=some b) (h2:w.cell? ⟨B,2,none⟩=some c):(loadVar 105 ⟨B,0,none⟩).run Tryz.prog w=.ok (.agg #[a,b,c]) w:=by
 obtain ⟨dd,hu,hd⟩:=Option.map_eq_some_iff.1 Tryz.rowLi
 refine run_loadVar_mid w B 0 105 [a,b,c] dd ?_ hu hd Tryz.sizeLi
 intro k v hv
 rw [Nat.zero_add]
 match k,hv with
 | 0,hv=>simp at hv;rw [h0,hv]
 | 1,hv=>simp at hv;rw [h1,hv]
 | 2,hv=>simp at hv;rw [h2,hv]
theorem writeOut_any (T:Nt) (nv:Value) (w:World) (h:w.ownsRow 0 186 6 nv (T.nd 0 0).length (ndsC (T.nd 0 0))) (hsz:T.size≤10000) (hops:T.Ops) (hreps:T.Reps) (hln:T.lenN≤10000) :
  Calls Tryz.prog 44 #[nv] w (OutL T w):=by
 have hpos:=T.size_pos
 obtain ⟨gn,cn,hnv⟩:=owns_someX h (by rw [Nt.nd_length];exact hpos)
 subst hnv
 have hbn:=h.lt gn rfl
 have hnl:=T.nd_length 0 0
 have h0:WOk ([],[]) 0:=⟨rfl,rfl,fun x hx=>by cases hx⟩
 have hpo:=(wrS_ok T 0).part _ _ h0
 have hmo:=(wrS_ok T 0).more _ _ h0
 have HPO:Hid ((wrS T 0 ([],[])).1.ok):=hpo
 have HSO:Hid (Sets (wrS T 0 ([],[])).2.2):=hmo.sets
 have hmf:=hmo.f
 have hms:=hmo.s
 rw [Nat.zero_add] at hmf hms
 have WN:Hid (WrN ((w.alloc (.cells #[.slice none 0 0,.int .i64 0,.slice none 0 0] 105)).alloc (.cells #[.slice (some ⟨gn,0,none⟩) (T.nd 0 0).length cn,.slice none 0 0,.slice none 0 0] 157)) (w.heap.size+1) (.slice (some ⟨gn,0,none⟩) (T.nd 0 0).length cn) (.slice none 0 0) (.slice none 0 0) (T.nd 0 0) ([],[])):=by
  refine ⟨⟨?_,?_,?_,?_,World.ownsRow_nil _ _ _ _,World.ownsRow_nil _ _ _ _⟩,ownsKpX h (((Kp.refl (fun _=>False) w).alloc _).alloc _) (fun _ _ h=>h),?_⟩
  ·simp [go_sem,World.cell?_alloc_at]
  ·simp [go_sem,World.cell?_alloc_at]
  ·simp [go_sem,World.cell?_alloc_at]
  ·intro o;simp [go_sem,World.frozen?_alloc_at]
  ·intro e;simp [Value.ownBlock] at e;omega
 have HWA:Hid (Calls Tryz.prog 70 #[.pointer (some ⟨w.heap.size+1,0,none⟩),.int .i64 ((T.size - 1:Nat):Int)] ((w.alloc (.cells #[.slice none 0 0,.int .i64 0,.slice none 0 0] 105)).alloc (.cells #[.slice (some ⟨gn,0,none⟩) T.size cn,.slice none 0 0,.slice none 0 0] 157)) (WrPost ((w.alloc (.cells #[.slice none 0 0,.int .i64 0,.slice none 0 0] 105)).alloc (.cells #[.slice (some ⟨gn,0,none⟩) T.size cn,.slice none 0 0,.slice none 0 0] 157)) (w.heap.size+1) (.slice (some ⟨gn,0,none⟩) T.size cn) (.slice none 0 0) (.slice none 0 0) (wrS T 0 ([],[])).1 (wrS T 0 ([],[])).2.1 (wrS T 0 ([],[])).2.2)):=by
  have:=write_all T gn cn hsz hops hreps T (T.size - 1) 0 0 (T.subs_last 0 0) (w.heap.size+1) _ _ ([],[]) 0 _ WN.out h0 (by omega)
  rw [hnl] at this
  exact this
 have HPF:Hid (plF T=(wrS T 0 ([],[])).1.first∧plS T=(wrS T 0 ([],[])).2.1∧plN T=followS (wrS T 0 ([],[])).2.2 (wrS T 0 ([],[])).1.last (onlyS (wrS T 0 ([],[])).2.1.length)):=⟨rfl,rfl,rfl⟩
 generalize (wrS T 0 ([],[])).1=pp at *
 generalize (wrS T 0 ([],[])).2.1=SS at *
 generalize (wrS T 0 ([],[])).2.2=FF at *
 have hcast:((T.size - 1:Nat):Int)=(T.size:Int) - 1:=by omega
 rw [hcast] at HWA
 have hms':SS.length≤10000:=by omega
 have hmf':FF.length≤10000:=by omega
 clear WN hmo hpo h0 h hcast hms hmf
 rw [hnl]
 clear hnl
 go_enter Tryz.func44,Tryz.ntmps44
 go_wp2_with fail
 refine HWA.out.mono ?_
 rintro e w1 ⟨sv1,fv1,rfl,hm1,k1,b1,b2⟩
 have hRw:w.heap.size+1<w1.heap.size:=hm1.lt
 have k1':Kp (fun b=>b=w.heap.size+1) ((w.alloc (.cells #[.slice none 0 0,.int .i64 0,.slice none 0 0] 105)).alloc (.cells #[.slice (some ⟨gn,0,none⟩) T.size cn,.slice none 0 0,.slice none 0 0] 157)) w1:=by
  refine k1.mono ?_
  rintro b _ (e|e|e)
  ·exact e
  ·simp [Value.ownBlock] at e
  ·simp [Value.ownBlock] at e
 have hnB:¬w.heap.size=w.heap.size+1:=by omega
 have hcl:∀j v,#[slice none 0 0,.int .i64 0,.slice none 0 0][j]? = some v→w1.cell? ⟨w.heap.size,j,none⟩=some v:=by
  intro j v hv
  rw [k1'.cell (p:=⟨w.heap.size,j,none⟩) (two_lt _ _ _) hnB,←hv]
  simp [go_sem,World.cell?_alloc_at]
 have hclz:∀j,w1.frozen? ⟨w.heap.size,j,none⟩=false:=by
  intro j
  rw [k1'.frozen (p:=⟨w.heap.size,j,none⟩) (two_lt _ _ _) hnB]
  simp [go_sem,World.frozen?_alloc_at]
 have HM1:Hid (WrM w1 (w.heap.size+1) (.slice (some ⟨gn,0,none⟩) T.size cn) sv1 fv1 SS FF):=hm1
 have K1:Hid (Nw w w1):=(((Kp.refl _ w).alloc _).alloc _).trans' k1' (by intro b hb e;omega)
 have g1:∀b,sv1.ownBlock=some b→w.heap.size+2≤b∧b<w1.heap.size:=fun b hb=>by
  have:=hm1.so.lt b hb
  exact ⟨by omega,this.2⟩
 have g2:∀b,fv1.ownBlock=some b→w.heap.size+2≤b∧b<w1.heap.size:=fun b hb=>by
  have:=hm1.fo.lt b hb
  exact ⟨by omega,this.2⟩
 have HG1:Hid (∀b,sv1.ownBlock=some b→w.heap.size+2≤b∧b<w1.heap.size):=g1
 have HG2:Hid (∀b,fv1.ownBlock=some b→w.heap.size+2≤b∧b<w1.heap.size):=g2
 have c1:=hm1.c1
 obtain ⟨s1p,s1c,hsv⟩:=ownsLenX hm1.so
 subst hsv
 have y0:=hcl 0 _ rfl
 have y1:=hcl 1 _ rfl
 have y2:=hcl 2 _ rfl
 have hl0:w.heap.size<w1.heap.size:=by omega
 have HSW:Hid (∀(ob:Obj) W,ob=.cells #[.int .i64 pp.first,.int .i64 pp.last,.bool pp.nothing] 159→Kp (fun k=>fv1.ownBlock=some k) (w1.alloc ob) W→(W.cell? ⟨w1.heap.size,1,none⟩=some (.int .i64 pp.last)∧W.cell? ⟨w.heap.size+1,1,none⟩=some (.slice s1p SS.length s1c))):=by
  rintro ob W rfl kW
  have z1:¬fv1.ownBlock=some w1.heap.size:=by intro e;have:=g2 _ e;omega
  have z2:¬fv1.ownBlock=some (w.heap.size+1):=by intro e;have:=g2 _ e;omega
  refine ⟨?_,?_⟩
  ·rw [kW.cell (p:=⟨w1.heap.size,1,none⟩) (by show w1.heap.size<_;simp) z1];simp [go_sem,World.cell?_alloc_at]
  ·rw [kW.cell (p:=⟨w.heap.size+1,1,none⟩) (by show w.heap.size+1<_;simp;omega) z2];simp [go_sem,hRw,c1,World.cell?_alloc_past]
 have HON:Hid (∀W,Calls Tryz.prog 72 #[.int .i64 SS.length] W fun e w'=>e=.returned (.int .i64 (onlyS SS.length:Nat))∧w'=W):=fun W=>onlyS_any SS.length W (by omega)
 have HFO:Hid (∀W,Nw w1 W→Calls Tryz.prog 71 #[.pointer (some ⟨w.heap.size+1,0,none⟩),.int .i64 pp.last,.int .i64 (onlyS SS.length:Nat)] W fun e w'=>e=.returned (.tuple #[])∧WrM w' (w.heap.size+1) (.slice (some ⟨gn,0,none⟩) T.size cn) (.slice s1p SS.length s1c) fv1 SS (followS FF pp.last (onlyS SS.length))∧Kp (fun k=>fv1.ownBlock=some k) W w'):=fun W kW=>follow_any (w.heap.size+1) pp.last (onlyS SS.length) _ _ fv1 SS FF W (HM1.out.nw kW) HPO.out.2 (onlyS_lt _) HSO.out (by omega)
 generalize onlyS SS.length=oS at *
 clear hm1 k1 k1' b1 b2 hcl g1 g2 HWA
 unfold partV
 go_wp2
 go_region_held3 (fun w'=>w'.cell? ⟨w1.heap.size,1,none⟩=some (.int .i64 pp.last)∧w'.cell? ⟨w.heap.size+1,1,none⟩=some (.slice s1p SS.length s1c)) (first|exact HSW.out _ _ rfl (Kp.refl _ _)|exact HSW.out _ _ rfl ((Kp.refl _ _).drewN _)|exact HSW.out _ _ rfl (((Kp.refl _ _).drewN _).trans k9)|exact HSW.out _ _ rfl k9)
  ((first|(go_at_call 72;refine (HON.out _).mono ?_;rintro e8 w8 ⟨rfl,rfl⟩)|(go_at_call 71;refine (HFO.out _ (by first|exact (Kp.refl _ w1).alloc _|exact ((Kp.refl _ w1).alloc _).drewN _)).mono ?_;rintro e9 w9 ⟨rfl,hm9,k9⟩)))
 all_goals
  have ka:Kp (fun k=>fv1.ownBlock=some k) (w1.alloc (.cells #[.int .i64 pp.first,.int .i64 pp.last,.bool pp.nothing] 159)) w9:=by first|exact k9|exact ((Kp.refl _ _).drew).trans k9|exact ((Kp.refl _ _).drewN _).trans k9
  have kb:Kp (fun k=>fv1.ownBlock=some k) w1 w9:=((Kp.refl _ w1).alloc _).trans ka
  have zB:∀B,B<w.heap.size+2→¬fv1.ownBlock=some B:=by intro B hB e;have:=(HG2.out _ e).1;omega
  have u0:=(kb.cell (p:=⟨w.heap.size,0,none⟩) hl0 (zB _ (by show w.heap.size<_;omega))).trans y0
  have u1:=(kb.cell (p:=⟨w.heap.size,1,none⟩) hl0 (zB _ (by show w.heap.size<_;omega))).trans y1
  have u2:=(kb.cell (p:=⟨w.heap.size,2,none⟩) hl0 (zB _ (by show w.heap.size<_;omega))).trans y2
  have uz:∀o,w9.frozen? ⟨w.heap.size,o,none⟩=false:=fun o=>(kb.frozen (p:=⟨w.heap.size,o,none⟩) hl0 (zB _ (by show w.heap.size<_;omega))).trans (hclz o)
  have f0:w9.cell? ⟨w1.heap.size,0,none⟩=some (.int .i64 pp.first):=by
   rw [ka.cell (p:=⟨w1.heap.size,0,none⟩) (by show w1.heap.size<_;simp) (by show ¬fv1.ownBlock=some w1.heap.size;intro e;have:=(HG2.out _ e).2;omega)]
   simp [go_sem,World.cell?_alloc_at]
  have r1:=hm9.c1
  have r2:=hm9.c2
  have K9:Hid (Nw w w9):=K1.out.trans' kb (by intro b hb e;have:=(HG2.out _ e).1;omega)
  have HM9:Hid (WrM w9 (w.heap.size+1) (.slice (some ⟨gn,0,none⟩) T.size cn) (.slice s1p SS.length s1c) fv1 SS (followS FF pp.last oS)):=hm9
  have hl9:w.heap.size<w9.heap.size:=Nat.lt_of_lt_of_le hl0 kb.size
  have q1:¬w.heap.size+1=w.heap.size:=by omega
  have q2:¬w1.heap.size=w.heap.size:=by omega
  obtain ⟨f1p,f1c,hfv⟩:=ownsLenX hm9.fo
  subst hfv
  clear ka kb k9 hm9 y0 y1 y2 hclz c1 HFO HON HSW
  go_wp2
  refine bodyPost_ret (results_cX Tryz.results44 _ _ _ ⟨w.heap.size,0,none⟩ rfl _ (load_list (a:=.slice s1p SS.length s1c) (b:=.int .i64 pp.first) (c:=.slice f1p (followS FF pp.last oS).length f1c) ?l0 ?l1 ?l2)) rfl ?_
  case l0=>simp [go_sem,u0,u1,u2]
  case l1=>simp [go_sem,u0,u1,u2]
  case l2=>simp [go_sem,u0,u1,u2]
  have kk:Kp (fun b=>b=w.heap.size) w9 (((w9.setCell ⟨w.heap.size,0,none⟩ (.slice s1p SS.length s1c)).setCell ⟨w.heap.size,1,none⟩ (.int .i64 pp.first)).setCell ⟨w.heap.size,2,none⟩ (.slice f1p (followS FF pp.last oS).length f1c)):=(((Kp.refl (fun b=>b=w.heap.size) w9).setCell (p:=⟨w.heap.size,0,none⟩) (Or.inr rfl) _).setCell (p:=⟨w.heap.size,1,none⟩) (Or.inr rfl) _).setCell (p:=⟨w.heap.size,2,none⟩) (Or.inr rfl) _
  obtain ⟨e1,e2,e3⟩:=HPF.out
  refine ⟨_,_,by rw [e1],?_,?_,K9.out.trans' kk (by intro b hb e;omega)⟩
  ·rw [e2];exact ownsBaseX (ownsKpX HM9.out.so kk (fun g hg e=>by have:=(HM9.out.so.lt g hg).1;omega)) (by omega)
  ·rw [e3];exact ownsBaseX (ownsKpX HM9.out.fo kk (fun g hg e=>by have:=(HM9.out.fo.lt g hg).1;omega)) (by omega)
structure CwM (w:World) (R:Nat) (tv cv:Value) (S:List Nat) (l:List In):Prop where
 c0:w.cell? ⟨R,0,none⟩=some tv
 c1:w.cell? ⟨R,1,none⟩=some cv
 z:∀o,w.frozen? ⟨R,o,none⟩=false
 so:w.ownsRow 0 3 1 tv S.length (intsV S)
 sb:∀g,tv.ownBlock=some g→g<R
 co:w.ownsRow (R+1) 120 14 cv l.length (codeC l)
theorem CwM.lt {w:World} {R:Nat} {tv cv:Value} {S:List Nat} {l:List In} (h:CwM w R tv cv S l):R<w.heap.size:=World.block_lt_of_cell? w ⟨R,0,none⟩ h.c0
theorem CwM.nw {w w':World} {R:Nat} {tv cv:Value} {S:List Nat} {l:List In} (h:CwM w R tv cv S l) (k:Nw w w'):CwM w' R tv cv S l :=
 ⟨(k.cell h.lt (fun h=>h)).trans h.c0,(k.cell h.lt (fun h=>h)).trans h.c1,fun o=>(k.frozen (p:=⟨R,o,none⟩) h.lt (fun h=>h)).trans (h.z o),owns_kp h.so k (fun _ _ h=>h),h.sb,owns_kp h.co k (fun _ _ h=>h)⟩
theorem codeC_one1 (l:List In) (x:In):codeC (l++[x])=codeC l++insC x:=by simp [codeC]
theorem oneCellsI (x:In):∀u∈insC x,u.oneCell'=true:=by
 have:=codeC_one [x]
 simpa [codeC] using this
theorem add_any (R:Nat) (tv cv:Value) (S:List Nat) (l:List In) (x:In) (w:World) (h:CwM w R tv cv S l) (hN:l.length≤100000) :
  Calls Tryz.prog 49 #[.pointer (some ⟨R,0,none⟩),insV x] w fun e w' =>
   e=.returned (.tuple #[])∧∃cv',CwM w' R tv cv' S (l++[x])∧Kp (fun b=>R≤b) w w':=by
 have H:Hid (CwM w R tv cv S l):=h
 have hlR:=h.lt
 have c1:=h.c1
 have fz:=h.z
 have hown:=h.co
 clear h
 obtain ⟨i0,hi,hz0,hz1,hz2⟩:=info_parts Tryz.info120
 have hne1:¬w.heap.size=R:=by omega
 have hne2:¬R=w.heap.size:=by omega
 have hge:Hid (∀b,cv.ownBlock=some b→R+1≤b∧b<w.heap.size):=fun b hb=>hown.lt b hb
 have hRn:¬some R=cv.ownBlock:=by intro e;have:=hge.out R e.symm;omega
 unfold insV
 go_enter Tryz.func49,Tryz.ntmps49
 go_wp2
 go_region_law
  ((refine step_append_lies _ (by rfl) _ _ _ (by rfl) (R+1) 120 i0 (.agg #[.int .i64 0,.int .i64 0,.int .i64 0,.int .i64 0,.int .i64 0,.int .i64 0,.int .i64 0,.int .i64 0,.int .i64 0,.int .i64 0,.int .i64 0,.int .i64 0,.int .i64 0,.int .i64 0]) 14 112 Tryz.underlying53 hi hz0 hz1 hz2 rfl (by omega) cv l.length (codeC l) (by rfl) (by exact (hown.alloc _).alloc _) ⟨w.heap.size+1,0,none⟩ 1 1 (insC x) (by rfl) (by rfl) (by exact news_snd w _ _ _) (oneCellsI x) (by omega) (by unfold maxLen;omega) (by omega) (by simp;omega) (w.heap.size+2) (by simp) ?_;intro g cap w1 hown1 hgrow hat hlt;have kR:∀o,w1.cell? ⟨R,o,none⟩=w.cell? ⟨R,o,none⟩:=(fun o=>(hgrow.cell_far _ (by simp;omega) hRn).trans (by simp [go_sem,hlR,World.cell?_alloc_past]));have kz:∀o,w1.frozen? ⟨R,o,none⟩=w.frozen? ⟨R,o,none⟩:=(fun o=>(hgrow.frozen_far _ (by simp;omega) hRn).trans (by simp [go_sem,hlR,World.frozen?_alloc_past]))))
 all_goals
  have K1:Hid (Kp (fun b=>b=R∨cv.ownBlock=some b) w w1):=((((Kp.refl _ w).alloc _).alloc _).drew).grown hgrow (fun b hb=>Or.inr (Or.inr hb))
  have KR:Hid (∀o,w1.cell? ⟨R,o,none⟩=w.cell? ⟨R,o,none⟩):=kR
  have KZ:Hid (∀o,w1.frozen? ⟨R,o,none⟩=w.frozen? ⟨R,o,none⟩):=kz
  have O1:Hid (w1.ownsRow (R+1) 120 14 (.slice (some ⟨g,0,none⟩) (l.length+1) cap) (l++[x]).length (codeC (l++[x]))):=by
   have e1:(l++[x]).length=l.length+1:=by simp
   show w1.ownsRow _ _ _ _ _ _
   rw [e1,codeC_one1]
   exact hown1
  have hsz:=hgrow.size
  clear hown1 hgrow hat
  go_wp2
  go_end0
  have hl1:R<w1.heap.size:=Nat.lt_of_lt_of_le hlR K1.out.size
  have K2:Kp (fun b=>b=R∨cv.ownBlock=some b) w (w1.setCell ⟨R,1,none⟩ (.slice (some ⟨g,0,none⟩) (l.length+1) cap)):=K1.out.setCell (p:=⟨R,1,none⟩) (Or.inr (Or.inl rfl)) _
  refine ⟨rfl,.slice (some ⟨g,0,none⟩) (l.length+1) cap,⟨?_,?_,?_,?_,H.out.sb,?_⟩,?_⟩
  ·simp [go_sem,KR.out,H.out.c0]
  ·simp [go_sem,KR.out,H.out.c1,KZ.out,H.out.z]
  ·intro o;simp [go_sem,KZ.out,H.out.z]
  ·refine owns_kp H.out.so K2 ?_
   rintro b hb (e|e)
   ·have:=H.out.sb b hb;omega
   ·have:=H.out.sb b hb;have:=hge.out b e;omega
  ·exact ownsRow_setCell_below O1.out (a:=⟨R,1,none⟩) (Nat.lt_succ_self R) _
  ·refine K2.mono ?_
   rintro b _ (e|e)
   ·show R≤b;omega
   ·have:=(hge.out b e).1;show R≤b;omega
theorem Tryz.rowIn:(Tryz.prog.underlying 120).map TypeDesc.isRow=some true:=by kernel_rfl
theorem Tryz.sizeIn:(Tryz.prog.info? 120).map (·.size)=some 14:=by kernel_rfl
theorem size_in (x:In):(Tryz.prog.info? 120).map (·.size)=some (insC x).length:=Tryz.sizeIn
theorem own_range {w:World} {base g n c i:Nat} {l:List In} {x:In} (h:w.ownsRow base 120 14 (.slice (some ⟨g,0,none⟩) n c) n (codeC l)) (hx:l[i]? = some x):w.rangeAt g (i*14) (insC x):=by
 intro k v hv
 have hk:k<14:=by have:=(List.getElem?_eq_some_iff.1 hv).1;simpa [insC] using this
 exact owns_cell h (i*14+k) (by rw [codeC_get l i k x hx hk];exact hv)
theorem owns_some {w:World} {base n size:Nat} {e:TypeId} {v:Value} {xs:List Value} (h:w.ownsRow base e size v n xs) (hn:0<n):∃g c,v=.slice (some ⟨g,0,none⟩) n c:=by
 obtain ⟨h1,h2⟩:=h
 rcases h2 with ⟨h2,h3,_⟩ | ⟨g',cap',cur,h2,_⟩
 ·omega
 ·exact ⟨g',cap',h2⟩
theorem addAll_any (R:Nat) (tv cv hv:Value) (S:List Nat) (l hs:List In) (w:World) (h:CwM w R tv cv S l) (ho:w.ownsRow 0 120 14 hv hs.length (codeC hs)) (hb:∀g,hv.ownBlock=some g→g<R) (hN:l.length+hs.length≤100000) :
  Calls Tryz.prog 48 #[.pointer (some ⟨R,0,none⟩),hv] w fun e w' =>
   e=.returned (.tuple #[])∧∃cv',CwM w' R tv cv' S (l++hs)∧Kp (fun b=>R≤b) w w':=by
 obtain ⟨dd,hu,hd⟩:=Option.map_eq_some_iff.1 Tryz.rowIn
 have HU:Hid (Tryz.prog.underlying 120=some dd):=hu
 have HD:Hid (dd.isRow=true):=hd
 have H:Hid (CwM w R tv cv S l):=h
 obtain ⟨hp,hc,rfl⟩:=ownsLenX ho
 have HO:Hid (w.ownsRow 0 120 14 (.slice hp hs.length hc) hs.length (codeC hs)):=ho
 have HB:Hid (∀g,(slice hp hs.length hc).ownBlock=some g→g<R):=hb
 clear hu hd h ho hb
 go_enter Tryz.func48,Tryz.ntmps48
 go_wp2
 go_loopg [4] hs.length (fun m v4 wr=>∃(i:Nat) (cv':Value),v4=.int .i64 i∧m=hs.length - i∧i≤hs.length∧CwM wr R tv cv' S (l++hs.take i)∧Kp (fun b=>R≤b) w wr)
 case atStart=>exact ⟨0,cv,rfl,rfl,by omega,by simpa using H.out,Kp.refl _ _⟩
 case round =>
  obtain ⟨i,cv',rfl,hm,hi,hw,hk⟩:=hrel
  have HM:Hid (_=hs.length - i):=hm
  have HW:Hid (CwM wr R tv cv' S (l++hs.take i)):=hw
  have HK:Hid (Kp (fun b=>R≤b) w wr):=hk
  clear hm hw hk
  by_cases hil:i<hs.length
  ·obtain ⟨x,hx⟩:∃x,hs[i]? = some x:=⟨_,List.getElem?_eq_getElem hil⟩
   have HX:Hid (hs[i]? = some x):=hx
   clear hx
   obtain ⟨g,c,hvg⟩:=owns_some HO.out (by omega)
   simp only [Value.slice.injEq] at hvg
   obtain ⟨rfl,_,rfl⟩:=hvg
   have HR:Hid (wr.rangeAt g (i*14) (insC x)):=own_range (owns_kp HO.out HK.out (fun b hb=>by have:=HB.out b hb;show ¬R≤b;omega)) HX.out
   have hlt:g<wr.heap.size:=by have:=HB.out g rfl;have:=HW.out.lt;omega
   go_wp2_with (first|(with_reducible (show Go.wpList _ _ _ ({ dst:=_,op:=Op.load 120 _,type:=_,pos:=_,after:=_,guard:=_ }::_) _ _);refine wpList_load_mid rfl 120 _ rfl g (i*14) (by simp [go_sem]) (insC x) dd HR.out HU.out HD.out (size_in x) ?_)|fail)
   have hlen:(l++hs.take i).length≤100000:=by simp;omega
   refine (add_any R tv cv' S (l++hs.take i) x wr HW.out hlen).mono ?_
   rintro e w1 ⟨rfl,cv2,hC,hk1⟩
   have HC:Hid (CwM w1 R tv cv2 S (l++hs.take i++[x])):=hC
   have HK1:Hid (Kp (fun b=>R≤b) wr w1):=hk1
   clear hC hk1
   go_wp2
   go_roundg (hs.length - (i+1))
   case measure=>rw [HM.out];omega
   case rel=>exact ⟨i+1,cv2,by simp,rfl,by omega,by rw [List.take_add_one,HX.out,←List.append_assoc];exact HC.out,HK.out.trans HK1.out⟩
  ·have hie:i=hs.length:=by omega
   subst hie
   go_wp2
   go_end0
   exact ⟨rfl,cv',by have:=HW.out;rwa [List.take_length] at this,HK.out⟩
def jumpI (t:Int):In:=⟨4,t,0,tst0⟩
def splitI (t b:Int):In:=⟨5,t,b,tst0⟩
def chainS (s:Nat):List Nat→Nat→Int→Nat→List In
 | [],_,_,_=>[]
 | t::r,i,left,n=>if hasS s i=true then (if left - 1>0 then splitI t (n+1) else jumpI t)::chainS s r (i+1) (left - 1) (n+1) else chainS s r (i+1) left n
theorem chainS_len (s:Nat):∀(S:List Nat) (i:Nat) (left:Int) (n:Nat),(chainS s S i left n).length≤S.length:=by
 intro S
 induction S with
 | nil=>intro i left n;exact Nat.le_refl _
 | cons t r ih =>
  intro i left n
  simp only [chainS]
  split
  ·simp only [List.length_cons];have:=ih (i+1) (left - 1) (n+1);omega
  ·simp only [List.length_cons];have:=ih (i+1) left n;omega
structure CrM (w:World) (R o base:Nat) (v:Value) (c:Crw):Prop where
 c0:w.cell? ⟨R,o,none⟩=some v
 c1:w.cell? ⟨R,o+1,none⟩=some (.int .i64 c.most)
 c2:w.cell? ⟨R,o+2,none⟩=some (.bool c.over)
 z:∀p,w.frozen? ⟨R,p,none⟩=false
 own:w.ownsRow base 129 27 v c.l.length (thsC c.l)
 lt:R<base
theorem CrM.rl {w:World} {R o base:Nat} {v:Value} {c:Crw} (h:CrM w R o base v c):R<w.heap.size:=World.block_lt_of_cell? w ⟨R,o,none⟩ h.c0
theorem CrM.nw {w w':World} {R o base:Nat} {v:Value} {c:Crw} (h:CrM w R o base v c) (k:Nw w w'):CrM w' R o base v c :=
 ⟨(k.cell (p:=⟨R,o,none⟩) h.rl (fun h=>h)).trans h.c0,(k.cell (p:=⟨R,o+1,none⟩) h.rl (fun h=>h)).trans h.c1,(k.cell (p:=⟨R,o+2,none⟩) h.rl (fun h=>h)).trans h.c2,fun p=>(k.frozen (p:=⟨R,p,none⟩) h.rl (fun h=>h)).trans (h.z p),owns_kp h.own k (fun _ _ h=>h),h.lt⟩
theorem plcFT_le (l:List Thr) (t:Thr):∀(m lo hi:Nat),lo≤hi→plcFT l t m lo hi≤hi:=by
 intro m
 induction m with
 | zero=>intro lo hi h;exact h
 | succ m ih =>
  intro lo hi h
  simp only [plcFT]
  split
  ·split
   ·split
    ·exact ih _ _ (by omega)
    ·exact Nat.le_trans (ih _ _ (by omega)) (by omega)
   ·exact h
  ·exact h
theorem plcT_le (l:List Thr) (t:Thr):plcT l t≤l.length:=plcFT_le l t _ _ _ (by omega)
theorem takeL {P:Program} {md:Region.Mode} {ops:Array Oper} {Q:Exit→Act→World→Prop} {S:World→Prop} {i:Nat} {oi:Oper} {v:Value} {fuel:Nat} {listed:Array Bool} {a:Act} {w:World} (hi:ops.toList[i]? = some oi)
  (hs:Region.noSelect ops=true) (hf:Region.free md ops listed i=true) (hr:(Region.ready md ops listed).contains i=true)
  (hQ:∀c a w,Q (.panic c) (a.put oi.dst v) w→Q (.panic c) a w) (hy:YieldsIf P ops S oi v a) (hS:S w)
  (h:wpAnyH P md ops Q S fuel (listed.setIfInBounds i true) (a.put oi.dst v) w):wpAnyH P md ops Q S (fuel+1) listed a w :=
 wpAnyH_take (by rw [←Array.getElem?_toList];exact hi) hs hf hr hQ hy hS h
theorem tL {P:Program} {md:Region.Mode} {ops:Array Oper} {Q:Exit→Act→World→Prop} {S:World→Prop} {i:Nat} {oi:Oper} {v:Value} {fuel:Nat} {listed:Array Bool} {a:Act} {w:World} (hi:ops.toList[i]? = some oi)
 (hy:YieldsIf P ops S oi v a) (hS:S w) (h:wpAnyH P md ops Q S fuel (listed.setIfInBounds i true) (a.put oi.dst v) w) (hs:Region.noSelect ops=true:=by kernel_rfl) (hf:Region.free md ops listed i=true:=by kernel_rfl) (hr:(Region.ready md ops listed).contains i=true:=by kernel_rfl)
 (hQ:∀c a w,Q (.panic c) (a.put oi.dst v) w→Q (.panic c) a w:=by exact fun _ _ _ h=>h):wpAnyH P md ops Q S (fuel+1) listed a w := takeL hi hs hf hr hQ hy hS h
theorem tN {P:Program} {md:Region.Mode} {ops:Array Oper} {Q:Exit→Act→World→Prop} {S:World→Prop} {i:Nat} {oi:Oper} {v:Value} {fuel:Nat} {listed:Array Bool} {a a':Act} {w:World} (hi:ops.toList[i]? = some oi)
 (hy:YieldsIf P ops S oi v a) (hS:S w) (h:wpAnyH P md ops Q S fuel (listed.setIfInBounds i true) a' w) (hs:Region.noSelect ops=true:=by kernel_rfl) (hf:Region.free md ops listed i=true:=by kernel_rfl) (hr:(Region.ready md ops listed).contains i=true:=by kernel_rfl)
 (hQ:∀c a w,Q (.panic c) (a.put oi.dst v) w→Q (.panic c) a w:=by exact fun _ _ _ h=>h) (ha:a.put oi.dst v=a':=by simp only [Act.put,sA,sZ,sS];rfl):wpAnyH P md ops Q S (fuel+1) listed a w := takeL hi hs hf hr hQ hy hS (by rw [ha];exact h)
theorem tM {P:Program} {md:Region.Mode} {ops:Array Oper} {Q:Exit→Act→World→Prop} {S:World→Prop} (i:Nat) {oi:Oper} {v:Value} {fuel:Nat} {listed:Array Bool} {a a':Act} {w:World} (hi:ops.toList[i]? = some oi)
 (hy:∀W,S W→(execOp a.eval oi).run P W=.ok (.value v) W) (hS:S w) (h:wpAnyH P md ops Q S fuel (listed.setIfInBounds i true) a' w) (hw:Region.wanted oi (yielded ops a.tmps)=true:=by rfl) (hs:Region.noSelect ops=true:=by kernel_rfl) (hf:Region.free md ops listed i=true:=by kernel_rfl) (hr:(Region.ready md ops listed).contains i=true:=by kernel_rfl)
 (hQ:∀c a w,Q (.panic c) (a.put oi.dst v) w→Q (.panic c) a w:=by exact fun _ _ _ h=>h) (ha:a.put oi.dst v=a':=by simp only [Act.put,sA,sZ,sS];rfl):wpAnyH P md ops Q S (fuel+1) listed a w := takeL hi hs hf hr hQ (Or.inl ⟨hw,hy⟩) hS (by rw [ha];exact h)
theorem consL {P:Program} {md:Region.Mode} {ops:Array Oper} {Q:Exit→Act→World→Prop} {S:World→Prop} {fuel:Nat} {listed:Array Bool} {a:Act} {w:World} {i:Nat} {o:Oper} {rs:List Nat} (ho:ops.toList[i]? = some o)
  (h:∀K':Act→World→Prop,Shut (∀a w,S w→(S w→wpAnyH P md ops Q S fuel (listed.setIfInBounds i true) a w)→K' a w)→if Region.wanted o (yielded ops a.tmps)=true then Oper.wp P o a w K' Q else K' (a.put o.dst undef) w)
  (hs:AllReadyH P md ops Q S fuel listed a w rs):AllReadyH P md ops Q S fuel listed a w (i::rs) :=
 AllReadyH.cons (by rw [←Array.getElem?_toList];exact ho) h hs
def PlPost (n:Nat) (w:World) (e:Ending) (w':World):Prop:=e=.returned (.int .i64 (n:Int))∧Nw w w'
theorem placeOf_any (R o base:Nat) (v:Value) (c:Crw) (t:Thr) (w:World) (h:CrM w R o base v c) (hN:c.l.length≤10000) :
  Calls Tryz.prog 121 #[.pointer (some ⟨R,o,none⟩),.agg (thC t).toArray] w (PlPost (plcT c.l t) w):=by
 obtain ⟨p,cc,rfl⟩:=ownsLenX h.own
 have H:Hid (CrM w R o base (.slice p c.l.length cc) c):=h
 have c0:=h.c0
 have hRl:=h.rl
 have HAH:Hid (∀(u:Thr) W,Calls Tryz.prog 125 #[.agg (thC u).toArray,.agg (thC t).toArray] W fun e w'=>e=.returned (.bool (aheadB u t))∧Nw W w'):=fun u W=>isAhead_any u t W
 have HPL:Hid (plcT c.l t=plcFT c.l t c.l.length 0 c.l.length):=rfl
 have HLN:Hid ((thC t).length=27):=thC_len t
 have hi1:=size_th t
 generalize plcT c.l t=pl at *
 generalize hLT:thC t=LT at *
 have HLT:Hid (thC t=LT):=hLT
 clear hLT h
 obtain ⟨l,most,over⟩:=c
 simp only at *
 go_enter Tryz.func121,Tryz.ntmps121
 go_wp2
 go_loopg [5,6] l.length (fun m v5 v6 wr=>∃lo hi:Nat,v5=.int .i64 lo∧v6=.int .i64 hi∧hi - lo≤m∧lo≤hi∧hi≤l.length∧plcFT l t m lo hi=pl∧Nw (w.alloc (.cells LT.toArray 129)) wr)
 case atStart=>exact ⟨0,l.length,rfl,rfl,by omega,by omega,by omega,HPL.out.symm,Kp.refl _ _⟩
 case round =>
  obtain ⟨lo,hi,rfl,rfl,hm,hlo,hhi,hpl,hk⟩:=hrel
  have HM:Hid (hi - lo≤gk):=hm
  have HP:Hid (plcFT l t gk lo hi=pl):=hpl
  have HK:Hid (Nw (w.alloc (.cells LT.toArray 129)) wr):=hk
  have HKW:Hid (Nw w wr):=((Kp.refl (fun _=>False) w).alloc _).trans hk
  clear hpl hk hm HPL c0
  by_cases hlh:lo<hi
  ·obtain ⟨q,hq⟩:∃q:Nat,q=(hi - lo) / 2:=⟨_,rfl⟩
   have hq1:((hi:Int) - (lo:Int)).tdiv 2=(q:Int):=by
    rw [hq,Int.tdiv_eq_ediv_of_nonneg (by omega)];omega
   have hq2:lo+q<hi:=by omega
   have HQ:Hid (q=(hi - lo) / 2):=hq
   clear hq
   obtain ⟨u,hu⟩:∃u,l[lo+q]? = some u:=⟨l[lo+q],by simp⟩
   have HUU:Hid (l[lo+q]? = some u):=hu
   clear hu
   obtain ⟨g,gc,hvg⟩:=owns_some H.out.own (by show 0<l.length;omega)
   simp only [Value.slice.injEq,true_and] at hvg
   obtain ⟨rfl,rfl⟩:=hvg
   obtain ⟨mid,hmid⟩:∃mid:Nat,mid=lo+q:=⟨_,rfl⟩
   rw [←hmid] at HUU hq2
   have hq3:(lo:Int)+(q:Int)=(mid:Int):=by rw [hmid];push_cast;rfl
   have HMD:Hid (mid=lo+q):=hmid
   clear hmid
   obtain ⟨dd,hu,hd⟩:=Option.map_eq_some_iff.1 Tryz.rowTh
   have s1:∀W,Nw wr W→W.cell? ⟨R,o,none⟩=some (.slice (some ⟨g,0,none⟩) l.length cc):=fun W kW=>(H.out.nw (HKW.out.trans kW)).c0
   have s2:∀W,Nw wr W→W.rangeAt g (mid*27) (thC u):=fun W kW=>owns_rangeT (H.out.nw (HKW.out.trans kW)).own HUU.out
   have s3:∀W,Nw wr W→W.rangeAt w.heap.size 0 LT:=fun W kW=>((Bx.new w LT _).kp (by rw [HLN.out];omega) (HK.out.trans kW) (fun h=>h)).r
   have S2:Hid (∀W,Nw wr W→W.rangeAt g (mid*27) (thC u)):=s2
   have S3:Hid (∀W,Nw wr W→W.rangeAt w.heap.size 0 LT):=s3
   have HU:Hid (Tryz.prog.underlying 129=some dd):=hu
   have HD:Hid (dd.isRow=true):=hd
   have HI1:Hid ((Tryz.prog.info? 129).map (·.size)=some LT.length):=hi1
   have HI2:Hid ((Tryz.prog.info? 129).map (·.size)=some (thC u).length):=size_th u
   clear s2 s3
   have hgl:g<wr.heap.size:=by have:=(H.out.own.lt g rfl).2;have:=HKW.out.size;omega
   have hRw:R<wr.heap.size:=by have:=HKW.out.size;omega
   have hwl:w.heap.size<wr.heap.size:=by have h1:w.heap.size<(w.alloc (.cells LT.toArray 129)).heap.size:=(by simp);have:=HK.out.size;omega
   have HAU:=HAH.out u
   have hlq:mid<l.length:=by omega
   have HPX:Hid (∀b,aheadB u t=b→∃m,gk=m+1∧(if b=true then plcFT l t m (mid+1) hi else plcFT l t m lo mid)=pl):=by
    rintro b rfl
    have hM:=HM.out
    obtain ⟨m,rfl⟩:∃m,gk=m+1:=⟨gk - 1,by omega⟩
    refine ⟨m,rfl,?_⟩
    rw [←HP.out]
    simp only [plcFT]
    rw [if_pos hlh,←HQ.out,←HMD.out,HUU.out]
   have HPY:=HPX.out _ rfl
   have HPZ:Hid (∃m,gk=m+1∧(if aheadB u t=true then plcFT l t m (mid+1) hi else plcFT l t m lo mid)=pl):=HPY
   clear HPX hu hd hi1 HPY
   generalize aheadB u t=b at *
   generalize thC u=LU at *
   go_wp2
   refine wp_region_held_drew (S:=fun W=>Nw wr W) (by kernel_rfl) ((Kp.refl _ _).drew) (fun hHeld => ?_)
   refine tM 0 rfl (fun W hSW=>by (try dsimp only at hSW);go_simp;rw []) hHeld ?_
   refine tM 1 rfl (fun W hSW=>by (try dsimp only at hSW);go_simp;rw []) hHeld ?_
   refine tM 2 rfl (fun W hSW=>by (try dsimp only at hSW);go_simp;rw []) hHeld ?_
   refine tM 3 rfl (fun W hSW=>by (try dsimp only at hSW);go_simp;rw []) hHeld ?_
   refine tM 4 rfl (fun W hSW=>by (try dsimp only at hSW);go_simp;rw []) hHeld ?_
   refine tM 5 rfl (fun W hSW=>by (try dsimp only at hSW);go_simp;rw []) hHeld ?_
   refine tN (i:=6) (v:=_) rfl (yieldsIf_load_mid (by rfl) 129 _ rfl g (mid*27) rfl LU dd S2.out HU.out HD.out HI2.out) hHeld ?_
   refine tN (i:=7) (v:=_) rfl (yieldsIf_load_mid (by rfl) 129 _ rfl w.heap.size (0) rfl LT dd S3.out HU.out HD.out HI1.out) hHeld ?_
   refine wpAnyH_ready (rs:=[8]) (by kernel_rfl) (by simp) ?_
   refine consL rfl (fun K hK => ?_) AllReadyH.nil
   go_simp
   refine (HAU _).mono ?_
   rintro e7 w7 ⟨rfl,k7⟩
   have k8:Nw wr w7:=((Kp.refl _ _).drew).trans k7
   try dsimp only
   refine hK.out _ _ k8 (fun _ => ?_)
   clear hK K
   try simp only [Act.put,sA,sZ,sS]
   refine wpAnyH_done (by kernel_rfl) ?_ _
   have HK8:Hid (Nw wr w7):=k8
   clear k8 k7 hHeld s1 HAU HAH HU HD HI1 HI2 S2 S3
   obtain ⟨m,hgm,hP⟩:=HPZ.out
   have HP2:Hid ((if b=true then plcFT l t m (mid+1) hi else plcFT l t m lo mid)=pl):=hP
   have HGM:Hid (gk=m+1):=hgm
   have HM2:Hid (hi - lo≤m+1):=by show _≤_;rw [←HGM.out];exact HM.out
   clear hP hgm HPZ
   cases b with
   | true =>
    rw [if_pos rfl] at HP2
    go_wp2
    go_roundg m
    case measure=>rw [HGM.out];omega
    case rel=>exact ⟨mid+1,hi,by simp,rfl,by have:=HM2.out;have:=HMD.out;have:=HQ.out;omega,by omega,hhi,HP2.out,HK.out.trans HK8.out⟩
   | false =>
    rw [if_neg (by simp)] at HP2
    go_wp2
    go_roundg m
    case measure=>rw [HGM.out];omega
    case rel=>exact ⟨lo,mid,rfl,rfl,by have:=HM2.out;have:=HMD.out;have:=HQ.out;omega,by have:=HMD.out;omega,by omega,HP2.out,HK.out.trans HK8.out⟩
  ·have HE:Hid (pl=lo):=by
    show _=_
    rw [←HP.out]
    cases gk with
    | zero=>rfl
    | succ m=>simp only [plcFT];rw [if_neg hlh]
   go_wp2
   go_ret
   exact ⟨by rw [HE.out];rfl,HKW.out⟩
end Go.Proofs.YtcboiapggnmpfaaGreatDoor
