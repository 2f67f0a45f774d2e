import Derived.Test.YtcboiapggnmpfaaGreatDoorQaq
namespace Go.Proofs.YtcboiapggnmpfaaGreatDoor
set_option maxRecDepth 100000
set_option maxHeartbeats 1000000
set_option linter.unusedSimpArgs false
set_option linter.unusedVariables false
open Go.RowKit
section
theorem Tryz.info152:(Tryz.prog.info? 152).map (fun i=>(i.zero,i.size,i.bytes))=some (some (.agg #[.int .i64 0,.int .i64 0,.bool false]),3,24):=by kernel_rfl
theorem made_spots (n:Nat):(madeCells #[.int .i64 0,.int .i64 0,.bool false] (n*3)).toList=spotsC (List.replicate n (0,0,false)):=by
 apply List.ext_getElem?
 intro k
 by_cases h:k<n*3
 ·have e:k=(k / 3)*3+k % 3:=by omega
  have hk:k / 3<n:=by omega
  have hr:k % 3<3:=by omega
  have h1:(spotsC (List.replicate n (0,0,false)))[k]? = (spotC (0,0,false))[k % 3]?:=by
   conv=>lhs;rw [e]
   exact spotsC_get _ (k / 3) (k % 3) _ (by simp [hk]) hr
  rw [h1]
  simp only [madeCells,Array.toList_ofFn,List.getElem?_ofFn,h,dite_true]
  have:k % 3=0∨k % 3=1∨k % 3=2:=by omega
  rcases this with h|h|h <;> (simp [h,spotC];exact ⟨k,by rw [List.getElem?_range (by assumption)],by rw [h];rfl⟩)
 ·rw [List.getElem?_eq_none (by simp [madeCells];omega),List.getElem?_eq_none (by rw [spotsC_length];simp;omega)]
def SpotPost (t:Nt) (w:World) (e:Ending) (w':World):Prop :=
 ∃(ss:List Spo) (g:Nat),e=.returned (.slice (some ⟨g,0,none⟩) t.steps.length t.steps.length)∧ss.length=t.steps.length∧(∀k x,ss[k]? = some x→LeafIs t k x)∧Row w' g 152 (spotsC ss)∧w.heap.size≤g∧Nw w w'
structure SpM (w wr:World) (t:Nt) (gn cn gs cs:Nat) (nl sl:Nat) (wb:Bool) (wi:Int) (ga g2 g3:Nat) (abs:List (Nat×Nat)) (sp ss:List Spo):Prop where
 pa:PAt wr w.heap.size (.slice (some ⟨gn,0,none⟩) nl cn) (.slice (some ⟨gs,0,none⟩) sl cs) (.bool wb) (.int .i64 wi)
 ra:Row wr ga 150 (heldsC abs)
 r2:Row wr g2 152 (spotsC sp)
 r3:Row wr g3 152 (spotsC ss)
 nw:Nw w wr
 la:w.heap.size<ga
 l2:ga<g2
 l3:g2<g3
section
variable {w wr:World} {t:Nt} {gn cn gs cs nl sl:Nat} {wb:Bool} {wi:Int} {ga g2 g3:Nat} {abs:List (Nat×Nat)} {sp ss:List Spo}
theorem SpM.next {w':World} (h:SpM w wr t gn cn gs cs nl sl wb wi ga g2 g3 abs sp ss) (k:Nw wr w'):SpM w w' t gn cn gs cs nl sl wb wi ga g2 g3 abs sp ss :=
 ⟨h.pa.sm (k.sm h.pa.lt (fun h=>h)),h.ra.kp k (fun h=>h),h.r2.kp k (fun h=>h),h.r3.kp k (fun h=>h),h.nw.trans k,h.la,h.l2,h.l3⟩
theorem SpM.kp1 {w':World} {B:Nat} (h:SpM w wr t gn cn gs cs nl sl wb wi ga g2 g3 abs sp ss) (k:Kp (fun b=>b=B) wr w') (hB:g3<B):SpM w w' t gn cn gs cs nl sl wb wi ga g2 g3 abs sp ss:=by
 have hl:=h.la
 have h2:=h.l2
 have h3:=h.l3
 exact ⟨h.pa.sm (k.sm h.pa.lt (by omega)),h.ra.kp k (by omega),h.r2.kp k (by omega),h.r3.kp k (by omega),h.nw.trans' k (by intro b hb e;omega),h.la,h.l2,h.l3⟩
theorem SpM.cell2 (h:SpM w wr t gn cn gs cs nl sl wb wi ga g2 g3 abs sp ss) (j:Nat) (y:Spo) (hy:sp[j]? = some y):wr.cell? ⟨g2,j*3,none⟩=some (.int .i64 y.1)∧wr.cell? ⟨g2,j*3+1,none⟩=some (.int .i64 y.2.1)∧wr.cell? ⟨g2,j*3+2,none⟩=some (.bool y.2.2):=by
 refine ⟨?_,?_,?_⟩
 ·rw [h.r2.cell,←Nat.add_zero (j*3),spotsC_get sp j 0 y hy (by omega)];rfl
 ·rw [h.r2.cell,spotsC_get sp j 1 y hy (by omega)];rfl
 ·rw [h.r2.cell,spotsC_get sp j 2 y hy (by omega)];rfl
theorem SpM.set2 (h:SpM w wr t gn cn gs cs nl sl wb wi ga g2 g3 abs sp ss) {i:Nat} (hi:i<sp.length) (y:Spo) :
  SpM w (((wr.setCell ⟨g2,i*3,none⟩ (.int .i64 y.1)).setCell ⟨g2,i*3+1,none⟩ (.int .i64 y.2.1)).setCell ⟨g2,i*3+2,none⟩ (.bool y.2.2)) t gn cn gs cs nl sl wb wi ga g2 g3 abs (sp.set i y) ss:=by
 have hl:=h.la
 have h2:=h.l2
 have h3:=h.l3
 have kk:Kp (fun b=>b=g2) wr (((wr.setCell ⟨g2,i*3,none⟩ (.int .i64 y.1)).setCell ⟨g2,i*3+1,none⟩ (.int .i64 y.2.1)).setCell ⟨g2,i*3+2,none⟩ (.bool y.2.2)):=((((Kp.refl (fun b=>b=g2) wr)).setCell (p:=⟨g2,i*3,none⟩) (Or.inr rfl) _).setCell (p:=⟨g2,i*3+1,none⟩) (Or.inr rfl) _).setCell (p:=⟨g2,i*3+2,none⟩) (Or.inr rfl) _
 exact ⟨h.pa.sm (kk.sm h.pa.lt (by omega)),h.ra.kp kk (by omega),h.r2.spotSet hi y,h.r3.kp kk (by omega),h.nw.trans' kk (by intro b hb e;omega),h.la,h.l2,h.l3⟩
theorem SpM.set3 (h:SpM w wr t gn cn gs cs nl sl wb wi ga g2 g3 abs sp ss) {i:Nat} (hi:i<ss.length) (y:Spo) :
  SpM w (((wr.setCell ⟨g3,i*3,none⟩ (.int .i64 y.1)).setCell ⟨g3,i*3+1,none⟩ (.int .i64 y.2.1)).setCell ⟨g3,i*3+2,none⟩ (.bool y.2.2)) t gn cn gs cs nl sl wb wi ga g2 g3 abs sp (ss.set i y):=by
 have hl:=h.la
 have h2:=h.l2
 have h3:=h.l3
 have kk:Kp (fun b=>b=g3) wr (((wr.setCell ⟨g3,i*3,none⟩ (.int .i64 y.1)).setCell ⟨g3,i*3+1,none⟩ (.int .i64 y.2.1)).setCell ⟨g3,i*3+2,none⟩ (.bool y.2.2)):=((((Kp.refl (fun b=>b=g3) wr)).setCell (p:=⟨g3,i*3,none⟩) (Or.inr rfl) _).setCell (p:=⟨g3,i*3+1,none⟩) (Or.inr rfl) _).setCell (p:=⟨g3,i*3+2,none⟩) (Or.inr rfl) _
 exact ⟨h.pa.sm (kk.sm h.pa.lt (by omega)),h.ra.kp kk (by omega),h.r2.kp kk (by omega),h.r3.spotSet hi y,h.nw.trans' kk (by intro b hb e;omega),h.la,h.l2,h.l3⟩
end
theorem spots_any (t:Nt) (nv sv:Value) (wb:Bool) (wi:Int) (L:List (St×Value)) (w:World) (h:PatM w nv sv (t.nd 0 0) L) (hL:L.map Prod.fst=t.steps) (hsz:t.size≤10000) (hops:t.Ops) :
  Calls Tryz.prog 64 #[.agg #[nv,sv,.bool wb,.int .i64 wi]] w (SpotPost t w):=by
 have hpos:=t.size_pos
 have hspos:=t.steps_pos
 have hsle:=t.steps_le
 obtain ⟨gn,cn,hnv⟩:=owns_someX h.nodes (by rw [Nt.nd_length];exact hpos)
 obtain ⟨gs,cs,hsv⟩:=owns_someX h.steps (by have:=congrArg List.length hL;simp at *;omega)
 subst hnv hsv
 have hbn:=h.nodes.lt gn rfl
 have hbs:=h.steps.lt gs rfl
 have hnl:=t.nd_length 0 0
 have hLl:L.length=t.steps.length:=by rw [←hL];simp
 have HC:Hid (∀W,Nw w W→Calls Tryz.prog 91 #[.agg #[.slice (some ⟨gn,0,none⟩) t.size cn,.slice (some ⟨gs,0,none⟩) t.steps.length cs,.bool wb,.int .i64 wi]] W (AddPost t W)):=by
  intro W kW
  have:=added_any t _ _ wb wi L W (h.nw kW) hL hsz hops
  rw [hnl,hLl] at this
  exact this
 have HP:Hid (PatM w (.slice (some ⟨gn,0,none⟩) (t.nd 0 0).length cn) (.slice (some ⟨gs,0,none⟩) L.length cs) (t.nd 0 0) L):=h
 have HL:Hid (L.map Prod.fst=t.steps):=hL
 clear h hL
 rw [hnl,hLl]
 clear hnl hLl
 generalize hS:t.steps.length=S at *
 have HS:Hid (t.steps.length=S):=hS
 clear hS
 obtain ⟨i0,hi0,hz0,hz1,hz2⟩:=info_parts Tryz.info152
 go_enter Tryz.func64,Tryz.ntmps64
 go_wp2_with fail
 refine (HC.out _ ((Kp.refl _ w).alloc _)).mono ?_
 rintro e2 w2 ⟨abs,ga,rfl,hadd,hra,hga,k2⟩
 have hA:=(pat_at w 70 (.slice (some ⟨gn,0,none⟩) t.size cn) (.slice (some ⟨gs,0,none⟩) S cs) (.bool wb) (.int .i64 wi) (B:=w.heap.size) rfl)
 have PA2:Hid (PAt w2 w.heap.size (.slice (some ⟨gn,0,none⟩) t.size cn) (.slice (some ⟨gs,0,none⟩) S cs) (.bool wb) (.int .i64 wi)):=hA.sm (k2.sm hA.lt (fun h=>h))
 have K2:Hid (Nw w w2):=((Kp.refl _ w).alloc _).trans k2
 have HAD:Hid (Adds t t.size abs):=hadd
 have hra':=hra.lt
 have RA:Hid (Row w2 ga 150 (heldsC abs)):=hra
 have hgw:w.heap.size<ga:=by simp at hga;omega
 obtain ⟨p0,p1,p2,p3,pz⟩:=PA2.out
 clear k2 hra hga hA hadd
 go_wp2_with (first|(at_make;refine wpList_make_full _ rfl _ _ 145 rfl w2.heap.size 152 i0 (.agg #[.int .i64 0,.int .i64 0,.bool false]) 3 Tryz.underlying145 hi0 hz0 hz1 _ _ _ _ t.size rfl rfl ?a1 ?a2 ?b1 ?b2 ?b3 ?_)|fail)
 case a1=>omega
 case a2=>omega
 case b1=>first|omega|(rw [hz2];omega)
 case b2=>unfold maxLen;omega
 case b3=>simp
 intro w3 hown3 hgrow3
 have k3:Nw w2 w3:=(Kp.refl _ _).grown hgrow3 (by intro k hk;cases hk)
 have R2:Hid (Row w3 w2.heap.size 152 (spotsC (List.replicate t.size (0,0,false)))):=by
  have:=Row.of_fullS hown3
  rw [made_spots] at this
  exact this
 have PA3:Hid (PAt w3 w.heap.size (.slice (some ⟨gn,0,none⟩) t.size cn) (.slice (some ⟨gs,0,none⟩) S cs) (.bool wb) (.int .i64 wi)):=PA2.out.sm (k3.sm PA2.out.lt (fun h=>h))
 have RA3:Hid (Row w3 ga 150 (heldsC abs)):=RA.out.kp k3 (fun h=>h)
 have K3:Hid (Nw w w3):=K2.out.trans k3
 have h23:=R2.out.lt
 clear hown3 hgrow3 k3 p0 p1 p2 p3 pz PA2 RA
 obtain ⟨p0,p1,p2,p3,pz⟩:=PA3.out
 go_wp2_with (first|(at_make;refine wpList_make_full _ rfl _ _ 145 rfl w3.heap.size 152 i0 (.agg #[.int .i64 0,.int .i64 0,.bool false]) 3 Tryz.underlying145 hi0 hz0 hz1 _ _ _ _ S rfl rfl ?a1 ?a2 ?b1 ?b2 ?b3 ?_)|fail)
 case a1=>omega
 case a2=>omega
 case b1=>first|omega|(rw [hz2];omega)
 case b2=>unfold maxLen;omega
 case b3=>simp
 intro w4 hown4 hgrow4
 have k4:Nw w3 w4:=(Kp.refl _ _).grown hgrow4 (by intro k hk;cases hk)
 have M4:Hid (SpM w w4 t gn cn gs cs t.size S wb wi ga w2.heap.size w3.heap.size abs (List.replicate t.size (0,0,false)) (List.replicate S (0,0,false))):=by
  have:=Row.of_fullS hown4
  rw [made_spots] at this
  exact ⟨PA3.out.sm (k4.sm PA3.out.lt (fun h=>h)),RA3.out.kp k4 (fun h=>h),R2.out.kp k4 (fun h=>h),this,K3.out.trans k4,hgw,hra',h23⟩
 clear hown4 hgrow4 k4 p0 p1 p2 p3 pz PA3 RA3 R2 K3 K2 hra' h23
 obtain ⟨p0,p1,p2,p3,pz⟩:=M4.out.pa
 generalize hg2:w2.heap.size=g2 at *
 generalize hg3:w3.heap.size=g3 at *
 clear hg2 hg3
 go_wp2
 go_loopg [6] t.size (fun m v6 wr=>∃(i:Nat) (sp ss:List Spo),v6=.int .i64 ((i:Int) - 1)∧m=i∧i≤t.size∧Spots t i sp ss∧SpM w wr t gn cn gs cs t.size S wb wi ga g2 g3 abs sp ss)
 case atStart=>exact ⟨t.size,_,_,rfl,rfl,Nat.le_refl _,by have:=Spots.start t;rw [HS.out] at this;exact this,M4.out⟩
 case round =>
  obtain ⟨i,sp,ss,rfl,hm,hi,hspo,hM⟩:=hrel
  have HSP:Hid (Spots t i sp ss):=hspo
  have HM:Hid (SpM w wr t gn cn gs cs t.size S wb wi ga g2 g3 abs sp ss):=hM
  have HMM:Hid (_=i):=hm
  obtain ⟨p0,p1,p2,p3,pz⟩:=hM.pa
  have hl3:=hM.r3.lt
  have hl2:=hM.l3
  have hla:=hM.l2
  have hl0:=hM.la
  have HPW:=HP.out.nw hM.nw
  clear hm hspo hM M4
  have y1:w.heap.size<wr.heap.size:=by omega
  have y3:gn<wr.heap.size:=by omega
  have y4:gs<wr.heap.size:=by omega
  have y5:g2<wr.heap.size:=by omega
  have y6:ga<wr.heap.size:=by omega
  by_cases hil:i=0
  ·subst hil
   clear HPW
   have e0:((0:Nat):Int) - 1 = -1:=rfl
   rw [e0]
   clear e0
   go_wp2
   go_ret
   refine ⟨ss,g3,?_,HSP.out.lens,HSP.out.done,HM.out.r3,by omega,HM.out.nw⟩
   rw [HS.out];rfl
  ·obtain ⟨n,rfl⟩:∃n,i=n+1:=⟨i - 1,by omega⟩
   have en:((n+1:Nat):Int) - 1=n:=by omega
   rw [en]
   clear en hil
   have hn:n<t.size:=by omega
   obtain ⟨u,m,k,hu⟩:∃u m k,(t.subs 0 0)[n]? = some (u,m,k):=⟨_,_,_,List.getElem?_eq_getElem (by rw [Nt.subs_length];exact hn)⟩
   have hnd:(t.nd 0 0)[n]? = some (u.root m k):=by rw [Nt.nd_subs,List.getElem?_map,hu];rfl
   obtain ⟨n0,n1,n2,n3,n4,n5⟩:=HPW.node hnd
   have hok:=t.subs_ok 0 0 n u m k hu
   have huo:=t.subs_ops 0 0 n u m k hops hu
   have HU:Hid ((t.subs 0 0)[n]? = some (u,m,k)):=hu
   obtain ⟨x,hx⟩:∃x,sp[n]? = some x:=⟨_,List.getElem?_eq_getElem (by rw [HSP.out.len];exact hn)⟩
   have HX:Hid (sp[n]? = some x):=hx
   have HH:Hid (SpotIs t u k x):=HSP.out.here hn hu hx
   have hc2:∀j y,sp[j]? = some y→wr.cell? ⟨g2,j*3,none⟩=some (.int .i64 y.1)∧wr.cell? ⟨g2,j*3+1,none⟩=some (.int .i64 y.2.1)∧wr.cell? ⟨g2,j*3+2,none⟩=some (.bool y.2.2):=by
    intro j y hy
    refine ⟨?_,?_,?_⟩
    ·rw [HM.out.r2.cell,←Nat.add_zero (j*3),spotsC_get sp j 0 y hy (by omega)];rfl
    ·rw [HM.out.r2.cell,spotsC_get sp j 1 y hy (by omega)];rfl
    ·rw [HM.out.r2.cell,spotsC_get sp j 2 y hy (by omega)];rfl
   obtain ⟨f0,f1,f2⟩:=hc2 n x hx
   have z2:∀o,wr.frozen? ⟨g2,o,none⟩=false:=HM.out.r2.froz
   obtain ⟨xm,xs,xr⟩:=x
   simp only at f0 f1 f2
   have hxl:=HH.out.lt
   simp only at hxl
   obtain ⟨hxm,hxs⟩:=hxl
   clear HPW hnd hu hx hi
   cases u with
   | one s =>
    simp only [Nt.root] at n0 n1 n2 n3 n4 n5
    have hks:k<S:=by have:=hok.sle;simp [Nt.steps] at this;rw [←HS.out];omega
    obtain ⟨y,hy⟩:∃y,ss[k]? = some y:=⟨_,List.getElem?_eq_getElem (by rw [HSP.out.lens,HS.out];exact hks)⟩
    have hkl:k<ss.length:=(List.getElem?_eq_some_iff.1 hy).1
    have h0:wr.cell? ⟨g3,k*3,none⟩=some (.int .i64 y.1):=by rw [HM.out.r3.cell,←Nat.add_zero (k*3),spotsC_get ss k 0 y hy (by omega)];rfl
    have h1:wr.cell? ⟨g3,k*3+1,none⟩=some (.int .i64 y.2.1):=by rw [HM.out.r3.cell,spotsC_get ss k 1 y hy (by omega)];rfl
    have h2:wr.cell? ⟨g3,k*3+2,none⟩=some (.bool y.2.2):=by rw [HM.out.r3.cell,spotsC_get ss k 2 y hy (by omega)];rfl
    have z3:∀o,wr.frozen? ⟨g3,o,none⟩=false:=HM.out.r3.froz
    clear hok huo hy hc2
    go_wp2
    go_roundg n
    case measure=>rw [HMM.out];omega
    case rel=>exact ⟨n,sp,ss.set k (xm,xs,xr),rfl,rfl,by omega,HSP.out.leafSet hn HU.out HX.out,((HM.out.set3 hkl (xm,xs,xr)).next ((Kp.refl _ _).alloc _)).next ((Kp.refl _ _).alloc _)⟩
   | two op l r =>
    obtain ⟨sl,sr⟩:=hok.two op l r rfl
    have hidx:=hok.idx
    simp only [Nt.size] at hidx
    have hl1:=l.size_pos
    have hr1:=r.size_pos
    obtain ⟨jl,hjl⟩:∃jl,jl+1=m+l.size:=⟨m+l.size - 1,by omega⟩
    obtain ⟨jr,hjr⟩:∃jr,jr+1=m+l.size+r.size:=⟨m+l.size+r.size - 1,by omega⟩
    have HJL:Hid (jl+1=m+l.size):=hjl
    have HJR:Hid (jr+1=m+l.size+r.size):=hjr
    have e1:m+l.size - 1 - 0=jl:=by omega
    rw [e1] at sl
    simp only [Nt.root] at n0 n1 n2 n3 n4 n5
    have el:((m+l.size:Nat):Int) - 1=jl:=by omega
    have er:((m+l.size+r.size:Nat):Int) - 1=jr:=by omega
    rw [el] at n2
    rw [er] at n3
    have hlr:jl<jr:=by omega
    have hjn:jr<n:=by omega
    have hjt:jr<t.size:=by omega
    have hjt':jl<t.size:=by omega
    obtain ⟨y,hy⟩:∃y,sp[jl]? = some y:=⟨_,List.getElem?_eq_getElem (by rw [HSP.out.len];omega)⟩
    obtain ⟨z,hz⟩:∃y,sp[jr]? = some y:=⟨_,List.getElem?_eq_getElem (by rw [HSP.out.len];omega)⟩
    have HLN:Hid (jl<sp.length∧jr<sp.length):=⟨by rw [HSP.out.len];omega,by rw [HSP.out.len];omega⟩
    obtain ⟨g0,g1,g2'⟩:=hc2 jl y hy
    obtain ⟨q0,q1,q2⟩:=hc2 jr z hz
    obtain ⟨⟨a,b⟩,hab⟩:∃ab,abs[jl]? = some ab:=⟨_,List.getElem?_eq_getElem (by rw [HAD.out.len];omega)⟩
    have AL:Hid (AddIs (nmT t) l k a b):=HAD.out.ok jl l m k a b (by omega) sl hab
    have b0:wr.cell? ⟨ga,jl*2,none⟩=some (.int .i64 a):=by rw [HM.out.ra.cell,←Nat.add_zero (jl*2),heldsC_get abs jl 0 _ hab (by omega)];rfl
    have b1:wr.cell? ⟨ga,jl*2+1,none⟩=some (.int .i64 b):=by rw [HM.out.ra.cell,heldsC_get abs jl 1 _ hab (by omega)];rfl
    have ha:=AL.out.maybe.lt
    have hb:=AL.out.surely.lt
    have hop:=huo.1
    clear hok huo hy hz hab hc2 sl sr e1 el er hidx hl1 hr1 hjl hjr
    have v1:¬jr*3=jl*3:=by omega
    have v2:¬jr*3=jl*3+1:=by omega
    have v3:¬jr*3=jl*3+2:=by omega
    have v4:¬jr*3+1=jl*3:=by omega
    have v5:¬jr*3+1=jl*3+1:=by omega
    have v6:¬jr*3+1=jl*3+2:=by omega
    have v7:¬jr*3+2=jl*3:=by omega
    have v8:¬jr*3+2=jl*3+1:=by omega
    have v9:¬jr*3+2=jl*3+2:=by omega
    have u1:¬g2=wr.heap.size:=by omega
    have u2:¬g2=wr.heap.size+1:=by omega
    rcases hop with rfl|rfl
    ·have HL2:Hid (SpotIs t l k (xm,xs,xr)):=HH.out.thenL
     have HR2:Hid (SpotIs t r (k+l.steps.length) (xm ||| a,xs ||| b,xr)):=HH.out.thenR AL.out
     have HZ:Hid (∀n' W,Nw ((((((wr.setCell ⟨g2,jl*3,none⟩ (.int .i64 xm)).setCell ⟨g2,jl*3+1,none⟩ (.int .i64 xs)).setCell ⟨g2,jl*3+2,none⟩ (.bool xr)).alloc (.cells #[.int .i64 1,.int .i64 0,.int .i64 jl,.int .i64 jr,.int .i64 0,.int .i64 0] 186)).alloc (.cells #[.int .i64 xm,.int .i64 xs,.bool xr] 152)).drewN n') W →
       (W.cell? ⟨wr.heap.size+1,0,none⟩=some (.int .i64 xm)∧W.cell? ⟨wr.heap.size+1,1,none⟩=some (.int .i64 xs)∧W.cell? ⟨wr.heap.size+1,2,none⟩=some (.bool xr)∧∀o,W.frozen? ⟨wr.heap.size+1,o,none⟩=false) ∧
       (W.cell? ⟨wr.heap.size,3,none⟩=some (.int .i64 jr))∧wr.heap.size+1<W.heap.size∧SpM w W t gn cn gs cs t.size S wb wi ga g2 g3 abs (sp.set jl (xm,xs,xr)) ss):=by
      intro n' W kW
      have hm2:=HM.out.set2 HLN.out.1 (xm,xs,xr)
      simp only at hm2
      generalize hwa:((wr.setCell ⟨g2,jl*3,none⟩ (.int .i64 xm)).setCell ⟨g2,jl*3+1,none⟩ (.int .i64 xs)).setCell ⟨g2,jl*3+2,none⟩ (.bool xr)=wa at *
      have hsz:wa.heap.size=wr.heap.size:=by rw [←hwa];simp
      rw [←hsz]
      have hk0:wa.heap.size+1<((wa.alloc (.cells #[.int .i64 1,.int .i64 0,.int .i64 jl,.int .i64 jr,.int .i64 0,.int .i64 0] 186)).alloc (.cells #[.int .i64 xm,.int .i64 xs,.bool xr] 152)).heap.size:=by simp
      refine ⟨⟨?_,?_,?_,?_⟩,?_,?_,?_⟩
      ·rw [kW.cell (by exact hk0) (fun h=>h)];simp [go_sem,World.cell?_alloc_at]
      ·rw [kW.cell (by exact hk0) (fun h=>h)];simp [go_sem,World.cell?_alloc_at]
      ·rw [kW.cell (by exact hk0) (fun h=>h)];simp [go_sem,World.cell?_alloc_at]
      ·intro o;rw [kW.frozen (by exact hk0) (fun h=>h)];simp [go_sem,World.frozen?_alloc_at]
      ·rw [kW.cell (by show wa.heap.size<_;exact Nat.lt_of_succ_lt hk0) (fun h=>h)];simp [go_sem,World.cell?_alloc_at]
      ·exact Nat.lt_of_lt_of_le hk0 kW.size
      ·exact ((hm2.next ((Kp.refl _ _).alloc _)).next ((Kp.refl _ _).alloc _)).next (((Kp.refl _ _).drewN n').trans kW)
     go_wp2
     go_region_with ((go_at_call 92;refine (heldAnd_any xm xs a b _ hxm hxs ha hb).mono ?_;rintro e9 w9 ⟨rfl,k9⟩;obtain ⟨⟨c0,c1,c2,cz⟩,cn3,hlt9,M9⟩:=HZ.out _ _ k9;have M9':Hid (SpM w w9 t gn cn gs cs t.size S wb wi ga g2 g3 abs (sp.set jl (xm,xs,xr)) ss):=M9;clear M9 k9))
     all_goals
      have kk:Kp (fun b=>b=wr.heap.size+1) w9 ((w9.setCell ⟨wr.heap.size+1,0,none⟩ (.int .i64 (xm ||| a:Nat))).setCell ⟨wr.heap.size+1,1,none⟩ (.int .i64 (xs ||| b:Nat))):=(((Kp.refl (fun b=>b=wr.heap.size+1) w9)).setCell (p:=⟨wr.heap.size+1,0,none⟩) (Or.inr rfl) _).setCell (p:=⟨wr.heap.size+1,1,none⟩) (Or.inr rfl) _
      have M10:Hid (SpM w ((w9.setCell ⟨wr.heap.size+1,0,none⟩ (.int .i64 (xm ||| a:Nat))).setCell ⟨wr.heap.size+1,1,none⟩ (.int .i64 (xs ||| b:Nat))) t gn cn gs cs t.size S wb wi ga g2 g3 abs (sp.set jl (xm,xs,xr)) ss):=M9'.out.kp1 kk (by omega)
      have d0:((w9.setCell ⟨wr.heap.size+1,0,none⟩ (.int .i64 (xm ||| a:Nat))).setCell ⟨wr.heap.size+1,1,none⟩ (.int .i64 (xs ||| b:Nat))).cell? ⟨wr.heap.size+1,0,none⟩=some (.int .i64 (xm ||| a:Nat)):=by simp [go_sem,c0]
      have d1:((w9.setCell ⟨wr.heap.size+1,0,none⟩ (.int .i64 (xm ||| a:Nat))).setCell ⟨wr.heap.size+1,1,none⟩ (.int .i64 (xs ||| b:Nat))).cell? ⟨wr.heap.size+1,1,none⟩=some (.int .i64 (xs ||| b:Nat)):=by simp [go_sem,c1]
      have d2:((w9.setCell ⟨wr.heap.size+1,0,none⟩ (.int .i64 (xm ||| a:Nat))).setCell ⟨wr.heap.size+1,1,none⟩ (.int .i64 (xs ||| b:Nat))).cell? ⟨wr.heap.size+1,2,none⟩=some (.bool xr):=by simp [go_sem,c2]
      have d3:((w9.setCell ⟨wr.heap.size+1,0,none⟩ (.int .i64 (xm ||| a:Nat))).setCell ⟨wr.heap.size+1,1,none⟩ (.int .i64 (xs ||| b:Nat))).cell? ⟨wr.heap.size,3,none⟩=some (.int .i64 jr):=by rw [kk.cell (by show wr.heap.size<_;omega) (by show ¬wr.heap.size=_;omega)];exact cn3
      generalize (w9.setCell ⟨wr.heap.size+1,0,none⟩ (.int .i64 (xm ||| a:Nat))).setCell ⟨wr.heap.size+1,1,none⟩ (.int .i64 (xs ||| b:Nat))=w10 at *
      obtain ⟨z',hz'⟩:∃y,(sp.set jl (xm,xs,xr))[jr]? = some y:=⟨_,List.getElem?_eq_getElem (by simpa using HLN.out.2)⟩
      obtain ⟨m0,m1,m2⟩:=M10.out.cell2 jr z' hz'
      have mz:∀o,w10.frozen? ⟨g2,o,none⟩=false:=M10.out.r2.froz
      clear kk c0 c1 c2 cz cn3 hlt9 M9' hz' n0 n1 n2 n3 n4 n5 f0 f1 f2 z2 g0 g1 g2' q0 q1 q2 b0 b1 p0 p1 p2 p3 pz
      go_wp2
      go_roundg n
      case measure=>rw [HMM.out];omega
      case rel=>exact ⟨n,(sp.set jl (xm,xs,xr)).set jr (xm ||| a,xs ||| b,xr),ss,rfl,rfl,by omega,HSP.out.two (x:=(xm,xs,xr)) hn HU.out HJL.out HJR.out HL2.out HR2.out,M10.out.set2 (by simpa using HLN.out.2) (xm ||| a,xs ||| b,xr)⟩
    ·have HL2:Hid (SpotIs t l k (xm,xs,xr)):=HH.out.orL
     have HR2:Hid (SpotIs t r (k+l.steps.length) (xm,xs,xr)):=HH.out.orR
     go_wp2
     go_roundg n
     case measure=>rw [HMM.out];omega
     case rel=>exact ⟨n,(sp.set jl (xm,xs,xr)).set jr (xm,xs,xr),ss,rfl,rfl,by omega,HSP.out.two (x:=(xm,xs,xr)) hn HU.out HJL.out HJR.out HL2.out HR2.out,(((HM.out.set2 HLN.out.1 (xm,xs,xr)).set2 (by simpa using HLN.out.2) (xm,xs,xr)).next ((Kp.refl _ _).alloc _)).next ((Kp.refl _ _).alloc _)⟩
   | rnd lo hi' b =>
    have hidx:=hok.idx
    simp only [Nt.size] at hidx
    have hl1:=b.size_pos
    obtain ⟨jl,hjl⟩:∃jl,jl+1=m+b.size:=⟨m+b.size - 1,by omega⟩
    have HJL:Hid (jl+1=m+b.size):=hjl
    simp only [Nt.root] at n0 n1 n2 n3 n4 n5
    have el:((m+b.size:Nat):Int) - 1=jl:=by omega
    rw [el] at n2
    have hjt':jl<t.size:=by omega
    obtain ⟨y,hy⟩:∃y,sp[jl]? = some y:=⟨_,List.getElem?_eq_getElem (by rw [HSP.out.len];omega)⟩
    have HLN:Hid (jl<sp.length):=by show _<_;rw [HSP.out.len];omega
    obtain ⟨g0,g1,g2'⟩:=hc2 jl y hy
    have HL2:Hid (SpotIs t b k (xm,xs,true)):=HH.out.rnd
    have u1:¬g2=wr.heap.size:=by omega
    have u2:¬g2=wr.heap.size+1:=by omega
    clear hok huo hy hc2 el hidx hl1 hjl
    go_wp2
    go_roundg n
    case measure=>rw [HMM.out];omega
    case rel=>exact ⟨n,sp.set jl (xm,xs,true),ss,rfl,rfl,by omega,HSP.out.rnd hn HU.out HJL.out HL2.out,((HM.out.set2 HLN.out (xm,xs,true)).next ((Kp.refl _ _).alloc _)).next ((Kp.refl _ _).alloc _)⟩
end
end Go.Proofs.YtcboiapggnmpfaaGreatDoor
