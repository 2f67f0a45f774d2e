import Derived.Test.YtcboiapggnmpfaaGreatDoorQbq
import Derived.Test.YtcboiapggnmpfaaGreatDoorQba
import Derived.Test.YtcboiapggnmpfaaGreatDoorQbr
namespace Go.Proofs.YtcboiapggnmpfaaGreatDoor
set_option maxRecDepth 100000
set_option maxHeartbeats 8000000
set_option linter.unusedSimpArgs false
set_option linter.unusedVariables false
open Go.RowKit
open Value (slice)
def endI:In:=⟨6,0,0,tst0⟩
def blocksS (S:List Nat):List (List In)→List Nat→List In→List In
 | h::hr,f::fr,l=>blocksS S hr fr ((l++h)++chainS f S 0 (countS f) (l++h).length)
 | _,_,l=>l
def codeW (heads:List (List In)) (F:List Nat) (first:Nat):List In :=
 blocksS (startsS (heads.map List.length) F (countS first)) heads F (chainS first (startsS (heads.map List.length) F (countS first)) 0 (countS first) 0)++[endI]
def codeOf (T:Nt) (L:List (St×Value)) (hw:Bool) (win:Int):List In :=
 codeW ((plS T).map (headOfP (hpOf ((List.range L.length).map (nmL L))) hw win L)) (plN T) (plF T)
theorem headOfP_len {hp:Nat→Int} {hw:Bool} {win:Int} {L:List (St×Value)} {s:Nat} (h:∀x∈L,TestsOk x.1.tests):(headOfP hp hw win L s).length≤903:=by
 unfold headOfP
 cases e:L[s]? with
 | none=>simp
 | some x =>
  have h1:=(h x (List.mem_of_getElem? e)).1
  have h2:=headS_len hp hw win x.1.kind x.1.name x.1.tests
  simp only
  omega
theorem program_any (T:Nt) (nv sv:Value) (hw:Bool) (win:Int) (L:List (St×Value)) (w:World) (hP:PatM w nv sv (T.nd 0 0) L) (hsz:T.size≤10000) (hops:T.Ops) (hreps:T.Reps) (hln:T.lenN≤24) (hSL:∀s∈plS T,s<L.length) (hL:L.length≤10000) (hL0:0<L.length) (htl:∀x∈L,TestsOk x.1.tests) :
  Calls Tryz.prog 29 #[.agg #[nv,sv,.bool hw,.int .i64 win]] w fun e w' =>
   ∃v,e=.returned v∧w'.ownsRow w.heap.size 120 14 v (codeOf T L hw win).length (codeC (codeOf T L hw win))∧Nw w w':=by
 have HP:Hid (PatM w nv sv (T.nd 0 0) L):=hP
 have HWO:Hid (∀W,Nw w W→Calls Tryz.prog 44 #[nv] W (OutL T W)):=fun W kW=>writeOut_any T nv W (hP.nw kW).nodes hsz hops hreps (by omega)
 obtain ⟨p1,p2,p3,p4⟩:=pl_ok T
 have HHO:Hid (∀W stv,Nw w W→W.ownsRow 0 3 1 stv (plS T).length (intsV (plS T))→Calls Tryz.prog 45 #[.agg #[nv,sv,.bool hw,.int .i64 win],stv] W fun e w'=>∃v hs,e=.returned v∧Hds w' W.heap.size v hs∧hs.map (·.2)=(plS T).map (headOfP (hpOf ((List.range L.length).map (nmL L))) hw win L)∧Nw W w'):=fun W stv kW ho=>headsOf_any nv sv stv hw win (T.nd 0 0) L (plS T) W (hP.nw kW) ho hSL (by omega) hL hL0 htl
 have HHL:Hid (∀x∈(plS T).map (headOfP (hpOf ((List.range L.length).map (nmL L))) hw win L),x.length≤903):=by
  intro x hx
  obtain ⟨s,_,rfl⟩:=List.mem_map.1 hx
  exact headOfP_len htl
 have HLEN:Hid (((plS T).map (headOfP (hpOf ((List.range L.length).map (nmL L))) hw win L)).length=(plN T).length):=by show _=_;rw [List.length_map,p1,p2]
 have HFS:Hid (Sets (plN T)):=p4
 have hF24:(plN T).length≤24:=by omega
 have HF1:Hid (plF T<2 ^ 25):=p3
 unfold codeOf
 have hOut:∀W e W',OutL T W e W'→∃sv fv,e=.returned (.agg #[sv,.int .i64 (plF T),fv])∧W'.ownsRow W.heap.size 3 1 sv (plS T).length (intsV (plS T))∧W'.ownsRow W.heap.size 102 1 fv (plN T).length (intsV (plN T))∧Nw W W':=fun _ _ _ h=>h
 have HOUT:Hid (∀W e W',OutL T W e W'→∃sv fv,e=.returned (.agg #[sv,.int .i64 (plF T),fv])∧W'.ownsRow W.heap.size 3 1 sv (plS T).length (intsV (plS T))∧W'.ownsRow W.heap.size 102 1 fv (plN T).length (intsV (plN T))∧Nw W W'):=hOut
 clear p1 p2 p3 p4 hP hSL htl hops hreps hsz hln hOut
 generalize (plS T).map (headOfP (hpOf ((List.range L.length).map (nmL L))) hw win L)=heads at *
 generalize plS T=Sx at *
 generalize plN T=F at *
 generalize plF T=first at *
 have hf1:=HF1.out
 go_enter Tryz.func29,Tryz.ntmps29
 go_wp2_with fail
 refine (HWO.out _ ((Kp.refl _ w).alloc _)).mono ?_
 intro e w1 hO
 obtain ⟨stv,fv,rfl,ho1,ho2,k1⟩:=HOUT.out _ _ _ hO
 have hb0:(w.alloc (.cells #[nv,sv,.bool hw,.int .i64 win] 70)).heap.size=w.heap.size+1:=by simp
 have hs1:w.heap.size+1≤w1.heap.size:=by have:=k1.size;rw [hb0] at this;exact this
 have HPB:Hid (∀W,Nw w1 W→W.cell? ⟨w.heap.size,0,none⟩=some nv∧W.cell? ⟨w.heap.size,1,none⟩=some sv∧W.cell? ⟨w.heap.size,2,none⟩=some (.bool hw)∧W.cell? ⟨w.heap.size,3,none⟩=some (.int .i64 win)):=by
  intro W kW
  have kc:∀o,W.cell? ⟨w.heap.size,o,none⟩=(w.alloc (.cells #[nv,sv,.bool hw,.int .i64 win] 70)).cell? ⟨w.heap.size,o,none⟩:=fun o=>(k1.trans kW).cell (p:=⟨w.heap.size,o,none⟩) (by rw [hb0];exact Nat.lt_succ_self _) (fun h=>h)
  refine ⟨?_,?_,?_,?_⟩ <;> (rw [kc];simp [go_sem,World.cell?_alloc_at])
 have HK1:Hid (Nw w w1):=((Kp.refl _ w).alloc _).trans k1
 have HO1:Hid (w1.ownsRow 0 3 1 stv Sx.length (intsV Sx)):=owns_baseP ho1 (by omega)
 have HO2:Hid (w1.ownsRow 0 102 1 fv F.length (intsV F)):=owns_baseP ho2 (by omega)
 obtain ⟨sp,sc,hstv⟩:=ownsLenX ho1
 subst hstv
 obtain ⟨fp,fc,hfv⟩:=ownsLenX ho2
 subst hfv
 obtain ⟨y0,y1,y2,y3⟩:=HPB.out w1 (Kp.refl _ _)
 clear hO ho1 ho2 k1 hb0 HWO HOUT
 have hne:¬w.heap.size=w1.heap.size:=by omega
 have hlt0:w.heap.size<w1.heap.size:=by omega
 have HL1:Hid (∀R W,w1.heap.size+1≤R→Kp (fun b=>R≤b) (w1.alloc (.cells #[.slice sp Sx.length sc,.int .i64 first,.slice fp F.length fc] 105)) W→W.cell? ⟨w1.heap.size,0,none⟩=some (.slice sp Sx.length sc)∧W.cell? ⟨w1.heap.size,1,none⟩=some (.int .i64 first)∧W.cell? ⟨w1.heap.size,2,none⟩=some (.slice fp F.length fc)∧w1.heap.size<W.heap.size∧W.ownsRow 0 102 1 (.slice fp F.length fc) F.length (intsV F)):=by
  intro R W hR kW
  have hs:((w1.alloc (.cells #[.slice sp Sx.length sc,.int .i64 first,.slice fp F.length fc] 105))).heap.size=w1.heap.size+1:=by simp
  have kc:∀o,W.cell? ⟨w1.heap.size,o,none⟩=((w1.alloc (.cells #[.slice sp Sx.length sc,.int .i64 first,.slice fp F.length fc] 105))).cell? ⟨w1.heap.size,o,none⟩:=fun o=>kW.cell (p:=⟨w1.heap.size,o,none⟩) (by rw [hs];exact Nat.lt_succ_self _) (by show ¬R≤w1.heap.size;omega)
  refine ⟨by rw [kc];simp [go_sem,World.cell?_alloc_at],by rw [kc];simp [go_sem,World.cell?_alloc_at],by rw [kc];simp [go_sem,World.cell?_alloc_at],?_,?_⟩
  ·have:=kW.size;rw [hs] at this;omega
  ·refine owns_kp (HO2.out.alloc _) kW ?_
   intro g hg e
   have:=(HO2.out.lt g hg).2
   have e':R≤g:=e
   omega
 have HHC:Hid (Calls Tryz.prog 45 #[.agg #[nv,sv,.bool hw,.int .i64 win],.slice sp Sx.length sc] (w1.alloc (.cells #[.slice sp Sx.length sc,.int .i64 first,.slice fp F.length fc] 105)) fun e w'=>∃v hs,e=.returned v∧Hds w' ((w1.alloc (.cells #[.slice sp Sx.length sc,.int .i64 first,.slice fp F.length fc] 105))).heap.size v hs∧hs.map (·.2)=heads∧Nw (w1.alloc (.cells #[.slice sp Sx.length sc,.int .i64 first,.slice fp F.length fc] 105)) w'):=HHO.out _ _ (HK1.out.alloc _) (HO1.out.alloc _)
 have HKL:Hid (Nw w (w1.alloc (.cells #[.slice sp Sx.length sc,.int .i64 first,.slice fp F.length fc] 105))):=HK1.out.alloc _
 have hsL:((w1.alloc (.cells #[.slice sp Sx.length sc,.int .i64 first,.slice fp F.length fc] 105))).heap.size=w1.heap.size+1:=by simp
 clear HHO HPB
 go_wp2_with fail
 refine HHC.out.mono ?_
 rintro e2 w2 ⟨hv,hs,rfl,hh,hhm,k2⟩
 rw [hsL] at hh
 have hs2:w1.heap.size+1≤w2.heap.size:=by have:=k2.size;rw [hsL] at this;exact this
 obtain ⟨z0,z1,z2,z3,z4⟩:=HL1.out w2.heap.size w2 hs2 (k2.mono (fun _ _ h=>h.elim))
 have HH:Hid (Hds w2 0 hv hs):=⟨owns_baseP hh.row (by omega),fun x hx=>owns_baseP (hh.each x hx) (by omega)⟩
 have HHM:Hid (hs.map (·.2)=heads):=hhm
 have hsl:hs.length=F.length:=by rw [←HLEN.out,←hhm,List.length_map]
 have HK2:Hid (Nw (w1.alloc (.cells #[.slice sp Sx.length sc,.int .i64 first,.slice fp F.length fc] 105)) w2):=k2
 have HLM:Hid (hs.map (fun x=>x.2.length)=heads.map List.length):=by show _=_;rw [←hhm,List.map_map];rfl
 have HSO:Hid (Calls Tryz.prog 46 #[.agg #[.slice sp Sx.length sc,.int .i64 first,.slice fp F.length fc],hv] w2 fun e w'=>∃v,e=.returned v∧w'.ownsRow (w2.heap.size+1) 3 1 v (F.length+1) (intsV (startsS (heads.map List.length) F (countS first)))∧Nw w2 w'):=by
  have:=startsOf_any first (.slice sp Sx.length sc) (.slice fp F.length fc) hv F hs w2 hf1 HFS.out z4 HH.out hsl (by omega) (fun x hx=>by have:=HHL.out x.2 (by rw [←hhm];exact List.mem_map_of_mem hx);omega)
  rw [HLM.out] at this
  exact this
 have HSLN:Hid (((startsS (heads.map List.length) F (countS first))).length=F.length+1):=startsS_len _ _ _ (by rw [List.length_map];exact HLEN.out)
 obtain ⟨hvp,hvc,hve⟩:=ownsLenX HH.out.row
 rw [hsl] at hve
 subst hve
 clear hh hhm k2 z4 HHC
 go_wp2_with fail
 refine HSO.out.mono ?_
 rintro e3 w3 ⟨tv,rfl,ht3,k3⟩
 obtain ⟨tp,tc,htv⟩:=ownsLenX ht3
 subst htv
 have HC0:Hid (CwM (w3.alloc (.cells #[.slice tp (F.length+1) tc,.slice none 0 0] 111)) w3.heap.size (.slice tp (F.length+1) tc) (.slice none 0 0) (startsS (heads.map List.length) F (countS first)) []):=by
  refine ⟨by simp [go_sem,World.cell?_alloc_at],by simp [go_sem,World.cell?_alloc_at],fun o=>by simp [go_sem,World.frozen?_alloc_at],?_,fun g hg=>(ht3.lt g hg).2,World.ownsRow_nil _ _ _ _⟩
  rw [HSLN.out]
  exact owns_baseP (ht3.alloc _) (by omega)
 have hs3:w2.heap.size≤w3.heap.size:=k3.size
 have HFX:Hid (∀W,Kp (fun b=>w3.heap.size≤b) (w3.alloc (.cells #[.slice tp (F.length+1) tc,.slice none 0 0] 111)) W→W.cell? ⟨w1.heap.size,1,none⟩=some (.int .i64 first)∧W.cell? ⟨w1.heap.size,2,none⟩=some (.slice fp F.length fc)∧w1.heap.size<W.heap.size∧W.ownsRow 0 102 1 (.slice fp F.length fc) F.length (intsV F)∧Hds W 0 (.slice hvp F.length hvc) hs∧Nw w W):=by
  intro W kW
  have k03:Nw (w1.alloc (.cells #[.slice sp Sx.length sc,.int .i64 first,.slice fp F.length fc] 105)) w3:=HK2.out.trans k3
  have kL:Kp (fun b=>w3.heap.size≤b) (w1.alloc (.cells #[.slice sp Sx.length sc,.int .i64 first,.slice fp F.length fc] 105)) W:=((k03.mono (fun _ _ h=>h.elim)).alloc _).trans kW
  obtain ⟨a0,a1,a2,a3,a4⟩:=HL1.out w3.heap.size W (by omega) kL
  refine ⟨a1,a2,a3,a4,?_,?_⟩
  ·exact HH.out.kp (((k3.mono (fun _ _ h=>h.elim)).alloc _).trans kW) (fun b _ hb e=>by have e':w3.heap.size≤b:=e;omega)
  ·exact HKL.out.trans' kL (fun b hb e=>by have e':w3.heap.size≤b:=e;omega)
 have HHB:Hid (∀x∈hs,∀g,x.1.ownBlock=some g→g<w3.heap.size):=fun x hx g hg=>Nat.lt_of_lt_of_le ((HH.out.each x hx).lt g hg).2 hs3
 have HCODE:Hid (codeW heads F first=blocksS (startsS (heads.map List.length) F (countS first)) heads F (chainS first (startsS (heads.map List.length) F (countS first)) 0 (countS first) 0)++[endI]):=rfl
 generalize (startsS (heads.map List.length) F (countS first))=SS at *
 have hSS:=HSLN.out
 have HAC:Hid (∀(y:Nat) (cv:Value) (l:List In) W,y<2 ^ 25→l.length≤50000→CwM W w3.heap.size (.slice tp (F.length+1) tc) cv SS l→Calls Tryz.prog 47 #[.pointer (some ⟨w3.heap.size,0,none⟩),.int .i64 y] W fun e w'=>e=.returned (.tuple #[])∧∃cv',CwM w' w3.heap.size (.slice tp (F.length+1) tc) cv' SS (l++chainS y SS 0 (countS y) l.length)∧Kp (fun b=>w3.heap.size≤b) W w'):=fun y cv l W hy hl hC=>addChain_any w3.heap.size y _ cv SS l W hC hy (by omega) (by omega)
 have HCHL:Hid (∀y n,(chainS y SS 0 (countS y) n).length≤25):=fun y n=>by have:=chainS_len y SS 0 (countS y) n;omega
 generalize hR:w3.heap.size=R at *
 clear k3 ht3 hsL HSO HSLN
 go_upto_region 4 with fail
 try rw [hR]
 generalize hW3:(w3.alloc (.cells #[.slice tp (F.length+1) tc,.slice none 0 0] 111))=W3 at *
 obtain ⟨a1,a2,a3,a4,a5,a6⟩:=HFX.out W3 (Kp.refl _ _)
 clear a4 a5 a6 z0 z1 z2 z3 y0 y1 y2 y3
 go_wp2_with fail
 refine (HAC.out first _ [] W3 hf1 (by simp) HC0.out).mono ?_
 rintro e4 w4 ⟨rfl,cv4,hC4,k4⟩
 have HC4:Hid (CwM w4 R (.slice tp (F.length+1) tc) cv4 SS (chainS first SS 0 (countS first) 0)):=hC4
 have HK4:Hid (Kp (fun b=>R≤b) W3 w4):=k4
 have hch0:=HCHL.out first 0
 clear hC4 k4 a1 a2 a3
 go_wp2
 go_loopg [6] F.length (fun m v6 wr=>∃(i:Nat) (cv:Value) (l:List In),v6=.int .i64 i∧m=F.length - i∧i≤F.length∧l.length≤25+i*928∧CwM wr R (.slice tp (F.length+1) tc) cv SS l∧blocksS SS (heads.drop i) (F.drop i) l++[endI]=codeW heads F first∧Kp (fun b=>R≤b) W3 wr)
 case atStart=>exact ⟨0,cv4,_,rfl,rfl,by omega,by omega,HC4.out,HCODE.out.symm,HK4.out⟩
 case round =>
  obtain ⟨i,cv,l,rfl,hm,hi,hll,hC,he,hk⟩:=hrel
  have HM:Hid (_=F.length - i):=hm
  have HC:Hid (CwM wr R (.slice tp (F.length+1) tc) cv SS l):=hC
  have HK:Hid (Kp (fun b=>R≤b) W3 wr):=hk
  have HE:Hid (blocksS SS (heads.drop i) (F.drop i) l++[endI]=codeW heads F first):=he
  obtain ⟨a1,a2,a3,a4,a5,a6⟩:=HFX.out wr hk
  have HH5:Hid (Hds wr 0 (.slice hvp F.length hvc) hs):=a5
  have HO5:Hid (wr.ownsRow 0 102 1 (.slice fp F.length fc) F.length (intsV F)):=a4
  clear hm hC hk he a4 a5 a6
  by_cases hil:i<F.length
  ·obtain ⟨y,hy⟩:∃y,F[i]? = some y:=⟨_,List.getElem?_eq_getElem hil⟩
   obtain ⟨x,hx⟩:∃x,hs[i]? = some x:=⟨_,List.getElem?_eq_getElem (by rw [hsl];exact hil)⟩
   have hxh:heads[i]? = some x.2:=by rw [←HHM.out,List.getElem?_map,hx];rfl
   have hyb:=HFS.out y (List.mem_of_getElem? hy)
   have hxl:=HHL.out x.2 (List.mem_of_getElem? hxh)
   have hxb:=HHB.out x (List.mem_of_getElem? hx)
   have hxo:=HH5.out.each x (List.mem_of_getElem? hx)
   have HE2:Hid (blocksS SS (heads.drop (i+1)) (F.drop (i+1)) ((l++x.2)++chainS y SS 0 (countS y) (l++x.2).length)++[endI]=codeW heads F first):=by
    have e:=HE.out
    obtain ⟨h1,h2⟩:=List.getElem?_eq_some_iff.1 hxh
    obtain ⟨h3,h4⟩:=List.getElem?_eq_some_iff.1 hy
    rw [List.drop_eq_getElem_cons h1,h2,List.drop_eq_getElem_cons h3,h4] at e
    exact e
   obtain ⟨gf,cf,hvf⟩:=owns_some HO5.out (by omega)
   simp only [Value.slice.injEq,true_and] at hvf
   obtain ⟨rfl,rfl⟩:=hvf
   have hrow:=HH5.out.row
   rw [hsl] at hrow
   obtain ⟨gh,ch,hvh⟩:=owns_some hrow (by omega)
   simp only [Value.slice.injEq,true_and] at hvh
   obtain ⟨rfl,rfl⟩:=hvh
   obtain ⟨xv,xl⟩:=x
   simp only at hxl hxb hxo HE2
   obtain ⟨xp,xc,hxv⟩:=ownsLenX hxo
   subst hxv
   have ch:wr.cell? ⟨gh,i,none⟩=some (.slice xp xl.length xc):=owns_cell hrow i (by rw [List.getElem?_map,hx];rfl)
   have HCF:Hid (∀W,Kp (fun b=>R≤b) W3 W→W.cell? ⟨gf,i,none⟩=some (.int .i64 y)):=fun W kW=>owns_cell (HFX.out W kW).2.2.2.1 i (intsV_get hy)
   have HXO:Hid (wr.ownsRow 0 120 14 (.slice xp xl.length xc) xl.length (codeC xl)):=hxo
   have HXB:Hid (∀g,(slice xp xl.length xc).ownBlock=some g→g<R):=hxb
   clear hy hx hxh hxo hxb hrow
   go_wp2_with fail
   refine (addAll_any R _ cv (.slice xp xl.length xc) SS l xl wr HC.out HXO.out HXB.out (by omega)).mono ?_
   rintro e5 w5 ⟨rfl,cv5,hC5,k5⟩
   have HC5:Hid (CwM w5 R (.slice tp (F.length+1) tc) cv5 SS (l++xl)):=hC5
   have HK5:Hid (Kp (fun b=>R≤b) W3 w5):=HK.out.trans k5
   obtain ⟨b1,b2,b3,_,_,_⟩:=HFX.out w5 HK5.out
   have cf5:=HCF.out w5 HK5.out
   clear hC5 k5 a1 a2 a3 ch
   go_wp2_with fail
   refine (HAC.out y cv5 (l++xl) w5 hyb (by simp;omega) HC5.out).mono ?_
   rintro e6 w6 ⟨rfl,cv6,hC6,k6⟩
   have HC6:Hid (CwM w6 R (.slice tp (F.length+1) tc) cv6 SS ((l++xl)++chainS y SS 0 (countS y) (l++xl).length)):=hC6
   have HK6:Hid (Kp (fun b=>R≤b) W3 w6):=HK5.out.trans k6
   have hc6:=HCHL.out y (l++xl).length
   clear hC6 k6 b1 b2 b3 cf5
   go_wp2
   go_roundg (F.length - (i+1))
   case measure=>rw [HM.out];omega
   case rel=>exact ⟨i+1,cv6,_,by simp,rfl,by omega,by simp only [List.length_append] at hc6 ⊢;omega,HC6.out,HE2.out,HK6.out⟩
  ·have hie:i=F.length:=by omega
   have HEF:Hid (l++[endI]=codeW heads F first):=by
    have:=HE.out
    have h1:heads.drop i=[]:=by rw [hie,←HLEN.out,List.drop_length]
    have h2:F.drop i=[]:=by rw [hie,List.drop_length]
    rw [h1,h2] at this
    exact this
   subst hie
   go_wp2_with fail
   refine (add_any R _ cv SS l endI wr HC.out (by omega)).mono ?_
   rintro e5 w5 ⟨rfl,cv5,hC5,k5⟩
   have c1:=hC5.c1
   have hl5:=hC5.lt
   have HC5:Hid (CwM w5 R (.slice tp (F.length+1) tc) cv5 SS (l++[endI])):=hC5
   have HK5:Hid (Nw w w5):=(HFX.out w5 (HK.out.trans k5)).2.2.2.2.2
   clear hC5 k5
   go_wp2
   go_ret
   exact ⟨_,rfl,by rw [←HEF.out];exact owns_baseP HC5.out.co (by omega),HK5.out⟩
theorem rounds_steps {f:WSt→Pp×WSt} {P:Nat→Prop} (h:∀W,(∀s∈W.1,P s)→∀s∈(f W).2.1,P s):∀(k:Nat) (W:WSt),(∀s∈W.1,P s)→∀s∈(rounds f k W).2.1,P s:=by
 intro k
 induction k with
 | zero=>intro W hW;exact hW
 | succ k ih=>intro W hW;exact h _ (ih W hW)
theorem wrS_steps (lo hi:Nat):∀(T:Nt) (st:Nat) (W:WSt),lo≤st→st+T.steps.length≤hi→(∀s∈W.1,lo≤s∧s<hi)→∀s∈(wrS T st W).2.1,lo≤s∧s<hi:=by
 intro T
 induction T with
 | one x =>
  intro st W h1 h2 hW s hs
  simp only [wrS,List.mem_append,List.mem_singleton] at hs
  simp only [Nt.steps,List.length_singleton] at h2
  rcases hs with e|e
  ·exact hW s e
  ·omega
 | two op l r hl hr =>
  intro st W h1 h2 hW
  simp only [Nt.steps,List.length_append] at h2
  have a:=hl st W h1 (by omega) hW
  have b:=hr (st+l.steps.length) _ (by omega) (by omega) a
  intro s hs
  simp only [wrS] at hs
  split at hs
  ·exact b s hs
  ·exact b s hs
 | rnd a b c hc =>
  intro st W h1 h2 hW
  simp only [Nt.steps] at h2
  intro s hs
  simp only [wrS] at hs
  split at hs
  ·exact hc st W h1 h2 hW s hs
  ·exact rounds_steps (P:=fun s=>lo≤s∧s<hi) (fun W hW=>hc st W h1 h2 hW) _ W hW s hs
theorem plS_steps (T:Nt):∀s∈plS T,s<T.steps.length:=fun s hs=>(wrS_steps 0 T.steps.length T 0 ([],[]) (Nat.le_refl _) (by omega) (by intro s hs;simp at hs) s hs).2
theorem PatOwn.prog {w w':World} {sc s:ByteArray} {pv:Value} {t:AltOf (Atom 8)} {win:Option Int} {L:List (St×Value)} {p:Int} (h:PatOwn w w' s pv t win L) (hc:ProgC sc s 0 p) :
  (altTr (atomTr 8) t).lenN≤24∧(∀q∈plS (altTr (atomTr 8) t),q<L.length)∧L.length≤10000∧0<L.length∧(∀x∈L,TestsOk x.1.tests):=by
 have hk:=h.known
 obtain ⟨x,hx⟩:=h.top
 have hLl:L.length=(altTr (atomTr 8) t).steps.length:=by rw [←hk.steps];simp
 have hsm:¬LargeP (altTr (atomTr 8) t) (altS (atomS 8) t.1 t.2):=by
  intro hn
  rcases hc with ⟨_,e,_⟩ | ⟨_,_,e,_⟩ | ⟨_,_,_,_,e,_⟩ | ⟨_,_,t',o',x',hx',hT⟩
  ·omega
  ·omega
  ·omega
  ·rw [hx] at hx'
   simp only [Prod.mk.injEq,Option.some.injEq] at hx'
   obtain ⟨⟨rfl,rfl⟩,rfl⟩:=hx'
   rcases hT with ⟨_,_,_,_,_,e,_⟩ | ⟨_,_,e,_⟩ | ⟨_,e,_,_⟩
   ·omega
   ·omega
   ·exact e hn
 unfold LargeP at hsm
 have hlong:¬24<(altTr (atomTr 8) t).long:=fun e=>hsm (by first|exact Or.inr (Or.inr e)|exact Or.inl e|exact Or.inr (Or.inl e))
 have htest:∀z∈altS (atomS 8) t.1 t.2,¬4<z.tests.length:=fun z hz e=>hsm (by first|exact Or.inr (Or.inl ⟨z,hz,e⟩)|exact Or.inr (Or.inr ⟨z,hz,e⟩))
 refine ⟨?_,?_,?_,?_,?_⟩
 ·rw [Nt.long_lenN _ hk.reps] at hlong;omega
 ·intro q hq;rw [hLl];exact plS_steps _ q hq
 ·have:=(altTr (atomTr 8) t).steps_le;have:=hk.size;omega
 ·have:=(altTr (atomTr 8) t).steps_pos;omega
 ·intro y hy
  have hm:y.1∈altS (atomS 8) t.1 t.2:=by rw [←hk.sts,←hk.steps];exact List.mem_map_of_mem hy
  have ht:=htest y.1 hm
  refine ⟨by omega,?_⟩
  intro q hq
  obtain ⟨⟨a1,a2⟩,⟨b1,b2⟩,⟨c1,c2⟩⟩:=hk.tstb y hy q hq
  exact ⟨⟨a1,by omega⟩,⟨b1,by omega⟩,⟨c1,by omega⟩⟩
def CmpPost (sc s:ByteArray) (w:World) (e:Ending) (w':World):Prop :=
 Nw w w'∧((∃f p:Int,e=.returned (.tuple #[.slice none 0 0,.int .i64 f])∧¬f=0∧ProgC sc s f p) ∨
  (∃(p:Int) (t:AltOf (Atom 8)) (win:Option Int) (L:List (St×Value)) (v:Value),e=.returned (.tuple #[v,.int .i64 0])∧ProgC sc s 0 p∧(∃x,pTopOf (pAtom 8) (toks 0 (bI s))=(some (t,win),x))∧Known s t L ∧
   w'.ownsRow w.heap.size 120 14 v (codeOf (altTr (atomTr 8) t) L win.isSome (win.getD 0)).length (codeC (codeOf (altTr (atomTr 8) t) L win.isSome (win.getD 0)))))
theorem compileP_any (sc s:ByteArray) (w:World) (hsc:sc.size≤maxLen) (hs:s.size≤maxLen) :
  Calls Tryz.prog 20 #[.string sc,.string s] w (CmpPost sc s w):=by
 have HC:Hid (Calls Tryz.prog 28 #[.string sc,.string s] w (ChRPost sc s w)):=checkRead_any sc s w hsc hs
 clear hsc hs
 go_enter Tryz.func20,Tryz.ntmps20
 go_wp2_with fail
 refine HC.out.mono ?_
 rintro e w1 ⟨pv,f,p,rfl,hc,k1,hor⟩
 rcases hor with ⟨hf,rfl⟩ | ⟨rfl,t,win,L,hO⟩
 ·have HCK:Hid (ProgC sc s f p):=hc
  have K1:Hid (Nw w w1):=k1
  have hfb:(f != 0)=true:=by simpa using hf
  unfold zeroP
  clear hc k1 HC
  go_wp2
  go_ret2
  exact ⟨K1.out.alloc _,Or.inl ⟨f,p,rfl,hf,HCK.out⟩⟩
 ·have HCK:Hid (ProgC sc s 0 p):=hc
  have K1:Hid (Nw w w1):=k1
  obtain ⟨q1,q2,q3,q4,q5⟩:=hO.prog hc
  have hk:=hO.known
  have HKN:Hid (Known s t L):=hk
  have HTOP:Hid (∃x,pTopOf (pAtom 8) (toks 0 (bI s))=(some (t,win),x)):=hO.top
  obtain ⟨nv,sv,rfl,hM⟩:=hO.val
  have HPG:Hid (∀W,Nw w1 W→Calls Tryz.prog 29 #[.agg #[nv,sv,.bool win.isSome,.int .i64 (win.getD 0)]] W fun e w'=>∃v,e=.returned v∧w'.ownsRow W.heap.size 120 14 v (codeOf (altTr (atomTr 8) t) L win.isSome (win.getD 0)).length (codeC (codeOf (altTr (atomTr 8) t) L win.isSome (win.getD 0)))∧Nw W w'):=fun W kW=>program_any (altTr (atomTr 8) t) nv sv win.isSome (win.getD 0) L W (hM.nw kW) hk.size hk.ops hk.reps q1 q2 q3 q4 q5
  obtain ⟨gn,cn,hnv⟩:=owns_someX hM.nodes (by rw [Nt.nd_length];exact (altTr (atomTr 8) t).size_pos)
  obtain ⟨gs,cs,hsv⟩:=owns_someX hM.steps q4
  subst hnv hsv
  have HCD:Hid (∀(v:Value) (W:World),W.ownsRow w.heap.size 120 14 v (codeOf (altTr (atomTr 8) t) L win.isSome (win.getD 0)).length (codeC (codeOf (altTr (atomTr 8) t) L win.isSome (win.getD 0)))→Nw w W→CmpPost sc s w (.returned (.tuple #[v,.int .i64 0])) W):=fun v W ho hn=>⟨hn,Or.inr ⟨p,t,win,L,v,rfl,HCK.out,HTOP.out,HKN.out,ho⟩⟩
  have hsz:=k1.size
  generalize codeOf (altTr (atomTr 8) t) L win.isSome (win.getD 0)=code at *
  generalize win.getD 0=ww at *
  generalize win.isSome=wb at *
  clear hc k1 HC hO hM hk q1 q2 q3 q4 q5 HTOP HKN HCK
  go_wp2_with fail
  refine (HPG.out _ ((Kp.refl _ w1).alloc _)).mono ?_
  rintro e2 w2 ⟨v,rfl,ho2,k2⟩
  have HO2:Hid (w2.ownsRow w.heap.size 120 14 v code.length (codeC code)):=owns_baseP ho2 (by simp;omega)
  have K2:Hid (Nw w w2):=(K1.out.alloc _).trans k2
  clear ho2 k2
  go_wp2
  go_ret2
  exact HCD.out _ _ HO2.out K2.out
theorem feedX_any (A:Nat) (sc:List Int) (live found:Int) (g cap:Nat) (l:List In) (bv:Value) (bs:List Nat) (r:Rst) (e:Evt) (w:World) (hc:RunC sc live found l bs) (hk:RunK w A sc live found g cap l bv bs r) (he:EvOk e) (hct:r.count≤1000000) :
  Calls Tryz.prog 22 #[.pointer (some ⟨A,0,none⟩),evV e] w (FeedPost w A sc live found g cap l bv bs (feedS sc l bs live found r e)):=by
 obtain ⟨⟨wv,hM⟩,hwn,hwk⟩:=hk
 have hAl:A<w.heap.size:=hM.lt
 have HK0:Hid (Nw w (w.alloc (.cells #[.int .i64 e.at',.int .i64 e.kind,.int .i64 e.x,.int .i64 e.y,.int .i64 e.z] 32))):=(Kp.refl _ w).alloc _
 have HFD:Hid (∀W,Nw w W→Calls Tryz.prog 34 #[.pointer (some ⟨A,0,none⟩),.agg #[.int .i64 e.at',.int .i64 e.kind,.int .i64 e.x,.int .i64 e.y,.int .i64 e.z]] W (FeedPost W A sc live found g cap l bv bs (feedS sc l bs live found r e))):=fun W kW=>feedT_any A sc live found g cap l bv bs r e W hc ⟨⟨wv,hM.nw kW⟩,hwn,hwk⟩ he hct
 have HB0:Hid (∀W,Kp (fun b=>b=A) (w.alloc (.cells #[.int .i64 e.at',.int .i64 e.kind,.int .i64 e.x,.int .i64 e.y,.int .i64 e.z] 32)) W→Bx W w.heap.size [.int .i64 e.at',.int .i64 e.kind,.int .i64 e.x,.int .i64 e.y,.int .i64 e.z]):=fun W kW=>(Bx.new w [.int .i64 e.at',.int .i64 e.kind,.int .i64 e.x,.int .i64 e.y,.int .i64 e.z] 32).kp (by simp) kW (by show ¬w.heap.size=A;omega)
 have HA0:Hid (A<(w.alloc (.cells #[.int .i64 e.at',.int .i64 e.kind,.int .i64 e.x,.int .i64 e.y,.int .i64 e.z] 32)).heap.size):=by show _<_;simp;omega
 have s1:∀W,Bx W w.heap.size [.int .i64 e.at',.int .i64 e.kind,.int .i64 e.x,.int .i64 e.y,.int .i64 e.z]→W.cell? ⟨w.heap.size,0,none⟩=some (.int .i64 e.at')∧W.cell? ⟨w.heap.size,1,none⟩=some (.int .i64 e.kind)∧W.cell? ⟨w.heap.size,2,none⟩=some (.int .i64 e.x)∧W.cell? ⟨w.heap.size,3,none⟩=some (.int .i64 e.y)∧W.cell? ⟨w.heap.size,4,none⟩=some (.int .i64 e.z):=fun W hb=>⟨hb.cell (k:=0) rfl,hb.cell (k:=1) rfl,hb.cell (k:=2) rfl,hb.cell (k:=3) rfl,hb.cell (k:=4) rfl⟩
 generalize feedS sc l bs live found r e=P at *
 obtain ⟨r',ms,c⟩:=P
 unfold evV
 clear hM hwk hwn hc he hct
 go_enter Tryz.func22,Tryz.ntmps22
 go_wp2
 generalize (w.alloc (.cells #[.int .i64 e.at',.int .i64 e.kind,.int .i64 e.x,.int .i64 e.y,.int .i64 e.z] 32))=w0 at *
 refine wp_region_held_drew (S:=fun W=>Bx W w.heap.size [.int .i64 e.at',.int .i64 e.kind,.int .i64 e.x,.int .i64 e.y,.int .i64 e.z]) (by kernel_rfl) (HB0.out _ ((Kp.refl _ _).drew)) (fun hHeld => ?_)
 refine tM 0 rfl (fun W hSW=>by (try dsimp only at hSW);go_simp;rw []) hHeld ?_
 refine tM 1 rfl (fun W hSW=>by (try dsimp only at hSW);go_simp;rw []) hHeld ?_
 refine tM 2 rfl (fun W hSW=>by (try dsimp only at hSW);go_simp;rw []) hHeld ?_
 refine tM 3 rfl (fun W hSW=>by (try dsimp only at hSW);go_simp;rw []) hHeld ?_
 refine wpAnyH_ready (rs:=[4]) (by kernel_rfl) (by simp) ?_
 refine consL rfl (fun K hK => ?_) AllReadyH.nil
 go_simp
 refine (HFD.out _ HK0.out.drew).mono ?_
 rintro e7 w7 ⟨v,rfl,hov,hrk,k7,hnl,hlw⟩
 have k8:Kp (fun b=>b=A) w0 w7:=((Kp.refl _ _).drew).trans k7
 have hS7:=HB0.out w7 k8
 try dsimp only
 refine hK.out _ _ hS7 (fun _ => ?_)
 clear hK K
 try simp only [Act.put,sA,sZ,sS]
 refine tM 5 rfl (fun W hSW=>by (try dsimp only at hSW);go_simp;rw []) hS7 ?_
 refine tM 6 rfl (fun W hSW=>by (try dsimp only at hSW);go_simp;rw []) hS7 ?_
 refine tM 7 rfl (fun W hSW=>by (try dsimp only at hSW);go_simp;rw []) hS7 ?_
 refine tM 8 rfl (fun W hSW=>by (try dsimp only at hSW);go_simp;rw []) hS7 ?_
 refine wpAnyH_done (by kernel_rfl) ?_ _
 have HFIN:Hid (FeedPost w A sc live found g cap l bv bs (r',ms,c) (.returned (.tuple #[v,.int .i64 c])) w7):=by
  have hs:w.heap.size≤w0.drew.heap.size:=HK0.out.drew.size
  exact ⟨v,rfl,owns_baseP hov hs,hrk,(HK0.out.mono (fun _ _ h=>h.elim)).trans k8,hnl,fun v' b hv hb=>(hlw v' b hv hb).elim (fun h=>Or.inl (Nat.le_trans hs h)) (fun h=>Or.inr ((HK0.out.drew.cell (p:=⟨A,9,none⟩) hAl (fun h=>h)).symm.trans h))⟩
 clear hHeld s1 hS7 hov hrk k7 k8 hnl hlw
 go_wp2
 go_ret2
 exact HFIN.out
theorem countX_any (A:Nat) (n:Int) (w:World) (h:w.cell? ⟨A,10,none⟩=some (.int .i64 n)) :
  Calls Tryz.prog 23 #[.pointer (some ⟨A,0,none⟩)] w fun e w'=>e=.returned (.int .i64 n)∧w'=w:=by
 have HL:Hid (Calls Tryz.prog 35 #[.pointer (some ⟨A,0,none⟩)] w fun e w'=>e=.returned (.int .i64 n)∧w'=w):=by
  show Calls _ _ _ _ _
  go_enter Tryz.func35,Tryz.ntmps35
  go_wp2
  go_ret
  exact ⟨rfl,rfl⟩
 go_enter Tryz.func23,Tryz.ntmps23
 go_wp2_with fail
 refine HL.out.mono ?_
 rintro e1 w1 ⟨rfl,rfl⟩
 go_wp2
 go_ret
 exact ⟨rfl,rfl⟩
structure ProgIs (sc s:ByteArray) (l:List In):Prop where
 ck:∀f p,ProgC sc s f p→f=0
 sc:schemaB (bI sc)=true
 code:∀(t:AltOf (Atom 8)) (win:Option Int) (L:List (St×Value)) x,pTopOf (pAtom 8) (toks 0 (bI s))=(some (t,win),x)→Known s t L→codeOf (altTr (atomTr 8) t) L win.isSome (win.getD 0)=l
 v:ValidIs l 0 0
 i:∀x∈l,InOk x
theorem new_any (sc s:ByteArray) (live found:Int) (l:List In) (w:World) (hsc:sc.size≤maxLen) (hs:s.size≤maxLen) (hp:ProgIs sc s l) (h1:1≤live) (h2:live≤200) (h3:1≤found) (h4:found≤200) :
  Calls Tryz.prog 14 #[.string sc,.agg #[.int .i64 live,.int .i64 found],.string s] w (LdPost w (bI sc) live found l):=by
 obtain ⟨_,hne,_⟩:=hp.v.all
 have h0:0<l.length:=List.length_pos_iff.2 hne
 have HCM:Hid (∀W,Calls Tryz.prog 20 #[.string sc,.string s] W fun e w'=>∃g cap,e=.returned (.tuple #[.slice (some ⟨g,0,none⟩) l.length cap,.int .i64 0])∧Code' w' g l∧Nw W w'):=fun W=>by
  refine (compileP_any sc s W hsc hs).mono ?_
  rintro e w' ⟨hk,⟨f,p,he,hf,hck⟩ | ⟨p,t,win,L,v,he,hck,⟨x,hx⟩,hkn,ho⟩⟩
  ·exact absurd (hp.ck f p hck) hf
  ·rw [hp.code t win L x hx hkn] at ho
   obtain ⟨g,cap,rfl⟩:=owns_some ho h0
   exact ⟨g,cap,he,Code'.of_cells (ho.lt g rfl).2 (fun j v hv=>owns_cell ho j hv),hk⟩
 have HLD:Hid (∀W g cap,Code' W g l→Calls Tryz.prog 21 #[.string sc,.agg #[.int .i64 live,.int .i64 found],.slice (some ⟨g,0,none⟩) l.length cap] W (LdPost W (bI sc) live found l)):=fun W g cap hc=>load_any sc live found g cap l W hsc hp.sc h1 h2 h3 h4 hc hp.v hp.i
 have HB0:Hid (∀W,Nw (w.alloc (.cells #[.int .i64 live,.int .i64 found] 46)) W→Bx W w.heap.size [.int .i64 live,.int .i64 found]):=fun W kW=>(Bx.new w [.int .i64 live,.int .i64 found] 46).kp (by simp) kW (fun h=>h)
 have HK0:Hid (Nw w (w.alloc (.cells #[.int .i64 live,.int .i64 found] 46))):=(Kp.refl _ w).alloc _
 clear hsc hs hp h1 h2 h3 h4 hne
 go_enter Tryz.func14,Tryz.ntmps14
 go_wp2_with fail
 refine (HCM.out _).mono ?_
 rintro e1 w1 ⟨g,cap,rfl,hc1,k1⟩
 have HC1:Hid (Code' w1 g l):=hc1
 have hb:=HB0.out w1 k1
 have d0:=hb.cell (k:=0) (v:=.int .i64 live) rfl
 have d1:=hb.cell (k:=1) (v:=.int .i64 found) rfl
 have hl1:=hb.lt (by simp)
 have HK1:Hid (Nw w w1):=HK0.out.trans k1
 clear hb hc1 k1 HCM
 go_wp2_with fail
 refine (HLD.out _ g cap HC1.out).mono ?_
 rintro e2 w2 ⟨X,rfl,⟨hk,hcc,hx,hn,hwe⟩⟩
 have HFIN:Hid (LdPost w (bI sc) live found l (.returned (.tuple #[.pointer (some ⟨X,0,none⟩),.int .i64 0])) w2):=by
  have hs:=HK1.out.size
  obtain ⟨g',cap',bv,h1,h2,h3⟩:=hk
  exact ⟨X,rfl,⟨g',cap',bv,h1,by omega,fun b hb=>by have:=h3 b hb;omega⟩,hcc,by omega,HK1.out.trans hn,hwe⟩
 clear hk hcc hx hn d0 d1 hwe
 go_wp2
 go_ret2
 exact HFIN.out
end Go.Proofs.YtcboiapggnmpfaaGreatDoor
