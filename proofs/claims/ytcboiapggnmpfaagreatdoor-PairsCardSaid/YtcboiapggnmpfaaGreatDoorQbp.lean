import Derived.Test.YtcboiapggnmpfaaGreatDoorQbo
import Derived.Test.YtcboiapggnmpfaaGreatDoorQax
import Derived.Deep.RegionHeld3
namespace Go.Proofs.YtcboiapggnmpfaaGreatDoor
set_option maxRecDepth 100000
set_option maxHeartbeats 8000000
set_option linter.unusedSimpArgs false
set_option linter.unusedVariables false
open Go.RowKit
theorem Tryz.underHo:Tryz.prog.underlying 164=some (.array 26 3):=by kernel_rfl
def headS (hp:Nat→Int) (hw:Bool) (win k nm:Int) (tests:List Tst):List In :=
 ([⟨0,k,0,tst0⟩]++(if hw=true then [⟨1,win,0,tst0⟩] else [])++tests.map (fun t=>⟨2,0,0,plTst hp t⟩))++(if 0≤nm∧nm<26 then [⟨3,hp nm.toNat,0,tst0⟩] else [])
theorem headS_len (hp:Nat→Int) (hw:Bool) (win k nm:Int) (tests:List Tst):(headS hp hw win k nm tests).length≤tests.length+3:=by
 unfold headS
 simp only [List.length_append,List.length_map,List.length_cons,List.length_nil]
 split <;> split <;> simp <;> omega
structure Hb (W0 wr:World) (B:Nat) (v:Value) (l:List In):Prop where
 own:wr.ownsRow B 120 14 v l.length (codeC l)
 nw:Nw W0 wr
theorem Hb.next {W0 wr w':World} {B:Nat} {v:Value} {l:List In} (h:Hb W0 wr B v l) (k:Nw wr w'):Hb W0 w' B v l:=⟨owns_kp h.own k (fun _ _ h=>h),h.nw.trans k⟩
theorem Hb.more {W0 wr w':World} {B:Nat} {v v':Value} {l:List In} {x:In} (h:Hb W0 wr B v l) (hB:B=W0.heap.size) (hg:wr.grownBy w' v.ownBlock) (ho:w'.ownsRow B 120 14 v' (l.length+1) (codeC l++insC x)):Hb W0 w' B v' (l++[x]):=by
 refine ⟨?_,h.nw.grown hg (fun b hb=>Or.inl (by rw [←hB];exact (h.own.lt b hb).1))⟩
 have e1:(l++[x]).length=l.length+1:=by simp
 rw [e1,codeC_one1];exact ho
theorem TB.newT (w:World) (t:Tst):TB (w.alloc (.cells #[.int .i64 t.left.of,.int .i64 t.left.field,.int .i64 t.left.num,.int .i64 t.rel,.int .i64 t.right.of,.int .i64 t.right.field,.int .i64 t.right.num,.int .i64 t.arith,.int .i64 t.more.of,.int .i64 t.more.field,.int .i64 t.more.num] 118)) w.heap.size t:=by
 refine ⟨?_,fun o=>by simp [go_sem,World.frozen?_alloc_at]⟩
 constructor <;> simp [go_sem,World.cell?_alloc_at]
theorem TB.new0 {B:Nat} (w:World) (hB:B=w.heap.size):TB (w.alloc (.cells #[.int .i64 0,.int .i64 0,.int .i64 0,.int .i64 0,.int .i64 0,.int .i64 0,.int .i64 0,.int .i64 0,.int .i64 0,.int .i64 0,.int .i64 0] 118)) B tst0:=by
 subst hB
 refine ⟨?_,fun o=>by simp [go_sem,World.frozen?_alloc_at]⟩
 constructor <;> simp [go_sem,World.cell?_alloc_at,tst0,tm0]
theorem headOf_any (LL:List Value) (hp:Nat→Int) (hA:HoldA LL.toArray hp) (hb:∀j,0≤hp j∧hp j≤100000) (nv sv:Value) (hw:Bool) (win pos k nm:Int) (tv:Value) (tests:List Tst) (w:World) (hto:w.ownsRow 0 118 11 tv tests.length (tstsC tests)) (htl:tests.length≤1000)
  (htt:∀t∈tests,(0≤t.left.of∧t.left.of≤100)∧(0≤t.right.of∧t.right.of≤100)∧(0≤t.more.of∧t.more.of≤100)) :
  Calls Tryz.prog 74 #[.agg LL.toArray,.agg #[nv,sv,.bool hw,.int .i64 win],.agg #[.int .i64 pos,.int .i64 k,.int .i64 nm,tv]] w fun e w' =>
   ∃v,e=.returned v∧w'.ownsRow w.heap.size 120 14 v (headS hp hw win k nm tests).length (codeC (headS hp hw win k nm tests))∧Nw w w':=by
 obtain ⟨tp,tc,rfl⟩:=ownsLenX hto
 have HTO:Hid (w.ownsRow 0 118 11 (.slice tp tests.length tc) tests.length (tstsC tests)):=hto
 have HPT:Hid (∀(t:Tst) W,t∈tests→Calls Tryz.prog 100 #[.agg LL.toArray,tstVD t] W fun e w'=>e=.returned (tstVD (plTst hp t))∧Nw W w'):=fun t W ht=>placedTst_any LL hp hA hb t (htt t ht) W
 have HA:Hid (HoldA LL.toArray hp):=hA
 have HBD:Hid (∀j,0≤hp j∧hp j≤100000):=hb
 have hLL:LL.length=26:=by simpa using hA.size
 have hiH:(Tryz.prog.info? 164).map (·.size)=some LL.length:=size_ho hLL
 have HIH:Hid ((Tryz.prog.info? 164).map (·.size)=some LL.length):=hiH
 obtain ⟨i0,hi0,hz0,hz1,hz2⟩:=info_parts Tryz.info120
 clear hA hb hto htt hLL hiH
 go_enter Tryz.func74,Tryz.ntmps74
 go_upto_if 15 with fail
 have HK0:Hid (Nw w (((w.alloc (.cells LL.toArray 164)).alloc (.cells #[nv,sv,.bool hw,.int .i64 win] 70)).alloc (.cells #[.int .i64 pos,.int .i64 k,.int .i64 nm,.slice tp tests.length tc] 100))):=(((Kp.refl _ w).alloc _).alloc _).alloc _
 have HS0:Hid (((((w.alloc (.cells LL.toArray 164)).alloc (.cells #[nv,sv,.bool hw,.int .i64 win] 70)).alloc (.cells #[.int .i64 pos,.int .i64 k,.int .i64 nm,.slice tp tests.length tc] 100))).heap.size=w.heap.size+1+1+1):=by show _=_;simp
 have HC0:Hid (∀W,Nw (((w.alloc (.cells LL.toArray 164)).alloc (.cells #[nv,sv,.bool hw,.int .i64 win] 70)).alloc (.cells #[.int .i64 pos,.int .i64 k,.int .i64 nm,.slice tp tests.length tc] 100)) W→W.rangeAt w.heap.size 0 LL∧W.cell? ⟨w.heap.size+1,3,none⟩=some (.int .i64 win)∧W.cell? ⟨w.heap.size+1+1,2,none⟩=some (.int .i64 nm)∧W.cell? ⟨w.heap.size+1+1,3,none⟩=some (.slice tp tests.length tc)∧w.heap.size+1+1+1≤W.heap.size):=by
  intro W kW
  have hs:=kW.size
  rw [HS0.out] at hs
  refine ⟨range_of rfl ((((Kp.refl (fun _=>False) _).alloc _).alloc _).trans kW) (fun h=>h),?_,?_,?_,hs⟩
  ·rw [kW.cell (p:=⟨w.heap.size+1,3,none⟩) (by rw [HS0.out];show w.heap.size+1<_;omega) (fun h=>h)];simp [go_sem,World.cell?_alloc_at]
  ·rw [kW.cell (p:=⟨w.heap.size+1+1,2,none⟩) (by rw [HS0.out];show w.heap.size+1+1<_;omega) (fun h=>h)];simp [go_sem,World.cell?_alloc_at]
  ·rw [kW.cell (p:=⟨w.heap.size+1+1,3,none⟩) (by rw [HS0.out];show w.heap.size+1+1<_;omega) (fun h=>h)];simp [go_sem,World.cell?_alloc_at]
 have HB1:Hid (Hb (((w.alloc (.cells LL.toArray 164)).alloc (.cells #[nv,sv,.bool hw,.int .i64 win] 70)).alloc (.cells #[.int .i64 pos,.int .i64 k,.int .i64 nm,.slice tp tests.length tc] 100)) ((((w.alloc (.cells LL.toArray 164)).alloc (.cells #[nv,sv,.bool hw,.int .i64 win] 70)).alloc (.cells #[.int .i64 pos,.int .i64 k,.int .i64 nm,.slice tp tests.length tc] 100)).alloc (.cells #[.int .i64 0,.int .i64 k,.int .i64 0,.int .i64 0,.int .i64 0,.int .i64 0,.int .i64 0,.int .i64 0,.int .i64 0,.int .i64 0,.int .i64 0,.int .i64 0,.int .i64 0,.int .i64 0] 120)) (w.heap.size+1+1+1) (.slice (some ⟨w.heap.size+1+1+1,0,none⟩) 1 1) [⟨0,k,0,tst0⟩]):=by
  refine ⟨?_,(Kp.refl _ _).alloc _⟩
  have:=owns_new (((w.alloc (.cells LL.toArray 164)).alloc (.cells #[nv,sv,.bool hw,.int .i64 win] 70)).alloc (.cells #[.int .i64 pos,.int .i64 k,.int .i64 nm,.slice tp tests.length tc] 100)) (base:=w.heap.size+1+1+1) (by rw [HS0.out];exact Nat.le_refl _) 120 #[.int .i64 0,.int .i64 k,.int .i64 0,.int .i64 0,.int .i64 0,.int .i64 0,.int .i64 0,.int .i64 0,.int .i64 0,.int .i64 0,.int .i64 0,.int .i64 0,.int .i64 0,.int .i64 0] 1 14 rfl (by unfold maxLen;omega)
  rw [HS0.out] at this
  exact this
 generalize (((w.alloc (.cells LL.toArray 164)).alloc (.cells #[nv,sv,.bool hw,.int .i64 win] 70)).alloc (.cells #[.int .i64 pos,.int .i64 k,.int .i64 nm,.slice tp tests.length tc] 100))=W0 at *
 generalize W0.alloc (.cells #[.int .i64 0,.int .i64 k,.int .i64 0,.int .i64 0,.int .i64 0,.int .i64 0,.int .i64 0,.int .i64 0,.int .i64 0,.int .i64 0,.int .i64 0,.int .i64 0,.int .i64 0,.int .i64 0] 120)=W1 at *
 go_cut [7] (fun v wr=>Hb W0 wr (w.heap.size+1+1+1) v ([⟨0,k,0,tst0⟩]++(if hw=true then [⟨1,win,0,tst0⟩] else [])))
 case first =>
  obtain ⟨z0,z1,z2,z3,z4⟩:=HC0.out W1 HB1.out.nw
  clear z0
  cases hw with
  | true =>
   go_wp2_with (at_builtin;refine wpList_append_lies _ rfl _ _ 53 rfl (w.heap.size+1+1+1) 120 i0 (.agg #[.int .i64 0,.int .i64 0,.int .i64 0,.int .i64 0,.int .i64 0,.int .i64 0,.int .i64 0,.int .i64 0,.int .i64 0,.int .i64 0,.int .i64 0,.int .i64 0,.int .i64 0,.int .i64 0]) 14 112 Tryz.underlying53 hi0 hz0 hz1 hz2 rfl (by decide) _ _ _ rfl (HB1.out.own.alloc _) ⟨W1.heap.size,0,none⟩ 1 1 (insC ⟨1,win,0,tst0⟩) rfl rfl (news_one W1 rfl _ _) (oneCellsI _) (by decide) (by unfold maxLen;simp) (by simp) (by simp;omega) _ rfl ?_)
   intro g3 cap3 w3 hown3 hgrow3 hat3 hlt3
   have B3:Hid (Hb W0 w3 (w.heap.size+1+1+1) (.slice (some ⟨g3,0,none⟩) (1+1) cap3) ([⟨0,k,0,tst0⟩]++[⟨1,win,0,tst0⟩])):=(HB1.out.next ((Kp.refl _ _).alloc _)).more HS0.out.symm hgrow3 hown3
   clear hown3 hgrow3 hat3
   go_wp2
   go_meet
   case rel=>exact B3.out
  | false =>
   go_wp2
   go_meet
   case rel=>exact HB1.out
 case rest =>
  have B2:Hid (Hb W0 wc (w.heap.size+1+1+1) u7 ([⟨0,k,0,tst0⟩]++(if hw=true then [⟨1,win,0,tst0⟩] else []))):=hcut
  clear hcut HB1
  have HLN:Hid (([⟨0,k,0,tst0⟩]++(if hw=true then [⟨1,win,0,tst0⟩] else []):List In).length≤2):=by show _≤_;cases hw <;> simp
  have HHS:Hid (headS hp hw win k nm tests=(([⟨0,k,0,tst0⟩]++(if hw=true then [⟨1,win,0,tst0⟩] else []))++tests.map (fun t=>⟨2,0,0,plTst hp t⟩))++(if 0≤nm∧nm<26 then [⟨3,hp nm.toNat,0,tst0⟩] else [])):=rfl
  generalize ([⟨0,k,0,tst0⟩]++(if hw=true then [⟨1,win,0,tst0⟩] else []):List In)=l0 at *
  have hl0:=HLN.out
  go_wp2
  go_loopg [7,8] tests.length (fun m v7 v8 wr=>∃(i:Nat),v8=.int .i64 i∧m=tests.length - i∧i≤tests.length∧Hb W0 wr (w.heap.size+1+1+1) v7 (l0++(tests.take i).map (fun t=>⟨2,0,0,plTst hp t⟩)))
  case atStart=>exact ⟨0,rfl,rfl,by omega,by simpa using B2.out⟩
  case round =>
   obtain ⟨i,rfl,hm,hi,hB⟩:=hrel
   have HM:Hid (_=tests.length - i):=hm
   have B3:Hid (Hb W0 wr (w.heap.size+1+1+1) u7 (l0++(tests.take i).map (fun t=>⟨2,0,0,plTst hp t⟩))):=hB
   obtain ⟨z0,z1,z2,z3,z4⟩:=HC0.out wr hB.nw
   have HZ0:Hid (wr.rangeAt w.heap.size 0 LL):=z0
   have HLB:Hid ((l0++(tests.take i).map (fun t=>(⟨2,0,0,plTst hp t⟩:In))).length=l0.length+i):=by show _=_;simp;omega
   clear hB B2 hm z0
   by_cases hi':i<tests.length
   ·obtain ⟨t,hti⟩:∃t,tests[i]? = some t:=⟨tests[i],by simp [hi']⟩
    have HTI:Hid (tests[i]? = some t):=hti
    have HNX:Hid (l0++(tests.take (i+1)).map (fun t=>(⟨2,0,0,plTst hp t⟩:In))=(l0++(tests.take i).map (fun t=>(⟨2,0,0,plTst hp t⟩:In)))++[⟨2,0,0,plTst hp t⟩]):=by
     show _=_
     rw [List.take_add_one,hti,Option.toList_some,List.map_append,←List.append_assoc];rfl
    generalize (l0++(tests.take i).map (fun t=>(⟨2,0,0,plTst hp t⟩:In)))=lA at B3 HLB HNX
    obtain ⟨g,c,hsl2⟩:=owns_some HTO.out (by omega)
    simp only [Value.slice.injEq,true_and] at hsl2
    obtain ⟨rfl,rfl⟩:=hsl2
    have HSW:Hid (∀W,Nw wr W→W.rangeAt w.heap.size 0 LL∧W.cell? ⟨w.heap.size+1+1,3,none⟩=some (.slice (some ⟨g,0,none⟩) tests.length tc)∧W.cell? ⟨g,i*11,none⟩=some (.int .i64 t.left.of)∧W.cell? ⟨g,i*11+1,none⟩=some (.int .i64 t.left.field)∧W.cell? ⟨g,i*11+2,none⟩=some (.int .i64 t.left.num)∧W.cell? ⟨g,i*11+3,none⟩=some (.int .i64 t.rel)∧W.cell? ⟨g,i*11+4,none⟩=some (.int .i64 t.right.of)∧W.cell? ⟨g,i*11+5,none⟩=some (.int .i64 t.right.field)∧W.cell? ⟨g,i*11+6,none⟩=some (.int .i64 t.right.num)∧W.cell? ⟨g,i*11+7,none⟩=some (.int .i64 t.arith)∧W.cell? ⟨g,i*11+8,none⟩=some (.int .i64 t.more.of)∧W.cell? ⟨g,i*11+9,none⟩=some (.int .i64 t.more.field)∧W.cell? ⟨g,i*11+10,none⟩=some (.int .i64 t.more.num)):=by
     intro W kW
     have kW0:=B3.out.nw.trans kW
     obtain ⟨y0,y1,y2,y3,y4⟩:=HC0.out W kW0
     obtain ⟨a0,a1,a2,a3,a4,a5,a6,a7,a8,a9,a10⟩:TstAt W g (i*11) t:=tstAt (owns_kp HTO.out (HK0.out.trans kW0) (fun _ _ h=>h)) HTI.out
     exact ⟨y0,y3,a0,a1,a2,a3,a4,a5,a6,a7,a8,a9,a10⟩
    have hgl:g<wr.heap.size:=Nat.lt_of_lt_of_le (HTO.out.lt g rfl).2 (HK0.out.trans B3.out.nw).size
    have HCL:Hid (∀W,Calls Tryz.prog 100 #[.agg LL.toArray,tstVD t] W fun e w'=>e=.returned (tstVD (plTst hp t))∧Nw W w'):=fun W=>HPT.out t W (List.mem_of_getElem? HTI.out)
    have hiH:=HIH.out
    have huH:=Tryz.underHo
    unfold tstVD at HCL
    clear hti z1 z2
    go_wp2
    go_region_held3 (fun w'=>w'.rangeAt w.heap.size 0 LL∧w'.cell? ⟨w.heap.size+1+1,3,none⟩=some (.slice (some ⟨g,0,none⟩) tests.length tc)∧w'.cell? ⟨g,i*11,none⟩=some (.int .i64 t.left.of)∧w'.cell? ⟨g,i*11+1,none⟩=some (.int .i64 t.left.field)∧w'.cell? ⟨g,i*11+2,none⟩=some (.int .i64 t.left.num)∧w'.cell? ⟨g,i*11+3,none⟩=some (.int .i64 t.rel)∧w'.cell? ⟨g,i*11+4,none⟩=some (.int .i64 t.right.of)∧w'.cell? ⟨g,i*11+5,none⟩=some (.int .i64 t.right.field)∧w'.cell? ⟨g,i*11+6,none⟩=some (.int .i64 t.right.num)∧w'.cell? ⟨g,i*11+7,none⟩=some (.int .i64 t.arith)∧w'.cell? ⟨g,i*11+8,none⟩=some (.int .i64 t.more.of)∧w'.cell? ⟨g,i*11+9,none⟩=some (.int .i64 t.more.field)∧w'.cell? ⟨g,i*11+10,none⟩=some (.int .i64 t.more.num)) ((refine HSW.out _ ?_;repeat' (first|with_reducible exact Kp.refl _ _|with_reducible assumption|with_reducible refine Kp.drew ?_|with_reducible refine Kp.alloc ?_ _|with_reducible refine Kp.setCell ?_ (Or.inl ?_) _|exact Nat.le_refl _|exact hle7)))
     ((go_at_call 100;refine (HCL.out _).mono ?_;rintro e7 w7 ⟨rfl,k7⟩;have k8:Nw wr w7:=(by first|exact ((Kp.refl _ _).drew).trans k7|exact (((Kp.refl _ _).alloc _).drew).trans k7);have hle7:wr.heap.size≤w7.heap.size:=k8.size;try (obtain ⟨⟨q0,q1,q2,q3,q4,q5,q6,q7,q8,q9,q10⟩,qz⟩:=TB.kp (TB.new0 (B:=wr.heap.size) _ (by first|rfl|simp)) (((Kp.refl _ _).drew).trans k7) (fun h=>h);simp only [tst0,tm0] at q0 q1 q2 q3 q4 q5 q6 q7 q8 q9 q10)))
    ·have T8:Hid (TB (w7.alloc (.cells #[.int .i64 (plTst hp t).left.of,.int .i64 (plTst hp t).left.field,.int .i64 (plTst hp t).left.num,.int .i64 (plTst hp t).rel,.int .i64 (plTst hp t).right.of,.int .i64 (plTst hp t).right.field,.int .i64 (plTst hp t).right.num,.int .i64 (plTst hp t).arith,.int .i64 (plTst hp t).more.of,.int .i64 (plTst hp t).more.field,.int .i64 (plTst hp t).more.num] 118)) w7.heap.size (plTst hp t)):=TB.newT w7 (plTst hp t)
     have K8:Hid (Nw wr (w7.alloc (.cells #[.int .i64 (plTst hp t).left.of,.int .i64 (plTst hp t).left.field,.int .i64 (plTst hp t).left.num,.int .i64 (plTst hp t).rel,.int .i64 (plTst hp t).right.of,.int .i64 (plTst hp t).right.field,.int .i64 (plTst hp t).right.num,.int .i64 (plTst hp t).arith,.int .i64 (plTst hp t).more.of,.int .i64 (plTst hp t).more.field,.int .i64 (plTst hp t).more.num] 118))):=k8.alloc _
     generalize w7.alloc (.cells #[.int .i64 (plTst hp t).left.of,.int .i64 (plTst hp t).left.field,.int .i64 (plTst hp t).left.num,.int .i64 (plTst hp t).rel,.int .i64 (plTst hp t).right.of,.int .i64 (plTst hp t).right.field,.int .i64 (plTst hp t).right.num,.int .i64 (plTst hp t).arith,.int .i64 (plTst hp t).more.of,.int .i64 (plTst hp t).more.field,.int .i64 (plTst hp t).more.num] 118)=W8 at T8 K8 ⊢
     generalize w7.heap.size=BX at T8 ⊢
     clear k7 k8 hle7 HSW HCL z3
     obtain ⟨⟨y0,y1,y2,y3,y4,y5,y6,y7,y8,y9,y10⟩,yz⟩:=T8.out
     have hBX:=T8.out.lt
     have B4:Hid (Hb W0 W8 (w.heap.size+1+1+1) u7 lA):=B3.out.next K8.out
     have hl8:w.heap.size+1+1+1≤W8.heap.size:=Nat.le_trans z4 K8.out.size
     go_wp2_with (at_builtin;refine wpList_append_lies _ rfl _ _ 53 rfl (w.heap.size+1+1+1) 120 i0 (.agg #[.int .i64 0,.int .i64 0,.int .i64 0,.int .i64 0,.int .i64 0,.int .i64 0,.int .i64 0,.int .i64 0,.int .i64 0,.int .i64 0,.int .i64 0,.int .i64 0,.int .i64 0,.int .i64 0]) 14 112 Tryz.underlying53 hi0 hz0 hz1 hz2 rfl (by decide) _ _ _ rfl (B4.out.own.alloc _) ⟨W8.heap.size,0,none⟩ 1 1 (insC ⟨2,0,0,plTst hp t⟩) rfl rfl (news_one W8 rfl _ _) (oneCellsI _) (by decide) (by unfold maxLen;have:=HLB.out;omega) (by have:=HLB.out;omega) (by have:=HLB.out;simp;omega) _ rfl ?_)
     intro g3 cap3 w3 hown3 hgrow3 hat3 hlt3
     have B5:Hid (Hb W0 w3 (w.heap.size+1+1+1) (.slice (some ⟨g3,0,none⟩) (lA.length+1) cap3) (lA++[⟨2,0,0,plTst hp t⟩])):=(B4.out.next ((Kp.refl _ _).alloc _)).more HS0.out.symm hgrow3 hown3
     clear hown3 hgrow3 hat3 y0 y1 y2 y3 y4 y5 y6 y7 y8 y9 y10 yz
     go_wp2
     go_roundg (tests.length - (i+1))
     case measure=>rw [HM.out];omega
     case rel=>exact ⟨i+1,by simp,rfl,by omega,by rw [HNX.out];exact B5.out⟩
    ·have HE:Hid ((((((((((((w7.setCell ⟨wr.heap.size,0,none⟩ (.int .i64 (plTst hp t).left.of)).setCell ⟨wr.heap.size,1,none⟩ (.int .i64 (plTst hp t).left.field)).setCell ⟨wr.heap.size,2,none⟩ (.int .i64 (plTst hp t).left.num)).setCell ⟨wr.heap.size,3,none⟩ (.int .i64 (plTst hp t).rel)).setCell ⟨wr.heap.size,4,none⟩ (.int .i64 (plTst hp t).right.of)).setCell ⟨wr.heap.size,5,none⟩ (.int .i64 (plTst hp t).right.field)).setCell ⟨wr.heap.size,6,none⟩ (.int .i64 (plTst hp t).right.num)).setCell ⟨wr.heap.size,7,none⟩ (.int .i64 (plTst hp t).arith)).setCell ⟨wr.heap.size,8,none⟩ (.int .i64 (plTst hp t).more.of)).setCell ⟨wr.heap.size,9,none⟩ (.int .i64 (plTst hp t).more.field)).setCell ⟨wr.heap.size,10,none⟩ (.int .i64 (plTst hp t).more.num))=set11D w7 wr.heap.size (plTst hp t)):=rfl
     have T8:Hid (TB (set11D w7 wr.heap.size (plTst hp t)) wr.heap.size (plTst hp t)):=TB.set11D (t0:=tst0) ⟨⟨q0,q1,q2,q3,q4,q5,q6,q7,q8,q9,q10⟩,qz⟩ (plTst hp t)
     have K8:Hid (Nw wr (set11D w7 wr.heap.size (plTst hp t))):=k8.trans' (set11D_kp _ _ _) (by intro b hb h;omega)
     rw [HE.out]
     generalize set11D w7 wr.heap.size (plTst hp t)=W8 at T8 K8 ⊢
     generalize hBXe:wr.heap.size=BX at T8 ⊢
     clear q0 q1 q2 q3 q4 q5 q6 q7 q8 q9 q10 qz HE k7 k8 hle7 HSW HCL z3
     obtain ⟨⟨y0,y1,y2,y3,y4,y5,y6,y7,y8,y9,y10⟩,yz⟩:=T8.out
     have hBX:=T8.out.lt
     have B4:Hid (Hb W0 W8 (w.heap.size+1+1+1) u7 lA):=B3.out.next K8.out
     have hl8:w.heap.size+1+1+1≤W8.heap.size:=Nat.le_trans z4 K8.out.size
     go_wp2_with (at_builtin;refine wpList_append_lies _ rfl _ _ 53 rfl (w.heap.size+1+1+1) 120 i0 (.agg #[.int .i64 0,.int .i64 0,.int .i64 0,.int .i64 0,.int .i64 0,.int .i64 0,.int .i64 0,.int .i64 0,.int .i64 0,.int .i64 0,.int .i64 0,.int .i64 0,.int .i64 0,.int .i64 0]) 14 112 Tryz.underlying53 hi0 hz0 hz1 hz2 rfl (by decide) _ _ _ rfl (B4.out.own.alloc _) ⟨W8.heap.size,0,none⟩ 1 1 (insC ⟨2,0,0,plTst hp t⟩) rfl rfl (news_one W8 rfl _ _) (oneCellsI _) (by decide) (by unfold maxLen;have:=HLB.out;omega) (by have:=HLB.out;omega) (by have:=HLB.out;simp;omega) _ rfl ?_)
     intro g3 cap3 w3 hown3 hgrow3 hat3 hlt3
     have B5:Hid (Hb W0 w3 (w.heap.size+1+1+1) (.slice (some ⟨g3,0,none⟩) (lA.length+1) cap3) (lA++[⟨2,0,0,plTst hp t⟩])):=(B4.out.next ((Kp.refl _ _).alloc _)).more HS0.out.symm hgrow3 hown3
     clear hown3 hgrow3 hat3 y0 y1 y2 y3 y4 y5 y6 y7 y8 y9 y10 yz
     go_wp2
     go_roundg (tests.length - (i+1))
     case measure=>rw [HM.out];omega
     case rel=>exact ⟨i+1,by simp,rfl,by omega,by rw [HNX.out];exact B5.out⟩
   ·have ei:i=tests.length:=by omega
    have HT:Hid (Hb W0 wr (w.heap.size+1+1+1) u7 (l0++tests.map (fun t=>⟨2,0,0,plTst hp t⟩))):=by
     have:=B3.out
     rw [ei,List.take_length] at this
     exact this
    have HLB2:Hid ((l0++tests.map (fun t=>(⟨2,0,0,plTst hp t⟩:In))).length=l0.length+tests.length):=by show _=_;simp
    have HZ1:=HZ0.out
    have HHS2:Hid (headS hp hw win k nm tests=(l0++tests.map (fun t=>⟨2,0,0,plTst hp t⟩))++(if 0≤nm∧nm<26 then [⟨3,hp nm.toNat,0,tst0⟩] else [])):=HHS.out
    clear HHS
    have HHS:=HHS2
    clear HHS2
    generalize (l0++tests.map (fun t=>(⟨2,0,0,plTst hp t⟩:In)))=lA at HT HLB2 HHS
    subst ei
    clear HLB
    by_cases hn0:0≤nm
    ·by_cases hn1:nm<26
     ·obtain ⟨j,hj⟩:∃j:Nat,nm=j:=⟨nm.toNat,by omega⟩
      subst hj
      have hj26:j<26:=by omega
      have hbj:=HBD.out j
      have HH2:Hid (headS hp hw win k (j:Int) tests=lA++[⟨3,hp j,0,tst0⟩]):=by
       have:=HHS.out
       rw [if_pos ⟨hn0,hn1⟩,Int.toNat_natCast] at this
       exact this
      have cj:wr.cell? ⟨w.heap.size,j,none⟩=some (.int .i64 (hp j)):=by
       have:=HZ0.out j (.int .i64 (hp j)) (by have:=HA.out.get j hj26;simpa using this)
       rw [Nat.zero_add] at this;exact this
      clear HHS HZ1
      generalize hp j=hpj at hbj HH2 cj
      go_wp2_with (at_builtin;refine wpList_append_lies _ rfl _ _ 53 rfl (w.heap.size+1+1+1) 120 i0 (.agg #[.int .i64 0,.int .i64 0,.int .i64 0,.int .i64 0,.int .i64 0,.int .i64 0,.int .i64 0,.int .i64 0,.int .i64 0,.int .i64 0,.int .i64 0,.int .i64 0,.int .i64 0,.int .i64 0]) 14 112 Tryz.underlying53 hi0 hz0 hz1 hz2 rfl (by decide) _ _ _ rfl (HT.out.own.alloc _) ⟨wr.heap.size,0,none⟩ 1 1 (insC ⟨3,hpj,0,tst0⟩) rfl rfl (news_one wr rfl _ _) (oneCellsI _) (by decide) (by unfold maxLen;have:=HLB2.out;omega) (by have:=HLB2.out;omega) (by have:=HLB2.out;simp;omega) _ rfl ?_)
      intro g3 cap3 w3 hown3 hgrow3 hat3 hlt3
      have B5:Hid (Hb W0 w3 (w.heap.size+1+1+1) (.slice (some ⟨g3,0,none⟩) (lA.length+1) cap3) (lA++[⟨3,hpj,0,tst0⟩])):=(HT.out.next ((Kp.refl _ _).alloc _)).more HS0.out.symm hgrow3 hown3
      clear hown3 hgrow3 hat3
      go_wp2
      go_ret
      exact ⟨_,rfl,by rw [HH2.out];exact owns_baseP B5.out.own (by omega),HK0.out.trans B5.out.nw⟩
     ·have HH2:Hid (headS hp hw win k nm tests=lA):=by
       have:=HHS.out
       rw [if_neg (by omega),List.append_nil] at this
       exact this
      clear HHS HZ1
      go_wp2
      go_ret
      exact ⟨_,rfl,by rw [HH2.out];exact owns_baseP HT.out.own (by omega),HK0.out.trans HT.out.nw⟩
    ·have HH2:Hid (headS hp hw win k nm tests=lA):=by
      have:=HHS.out
      rw [if_neg (by omega),List.append_nil] at this
      exact this
     have hn0':decide (0≤nm)=false:=by simp;omega
     clear HHS HZ1
     go_wp2
     go_ret
     exact ⟨_,rfl,by rw [HH2.out];exact owns_baseP HT.out.own (by omega),HK0.out.trans HT.out.nw⟩
end Go.Proofs.YtcboiapggnmpfaaGreatDoor
