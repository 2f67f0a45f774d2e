import Derived.Test.YtcboiapggnmpfaaGreatDoorQbp
import Derived.Test.YtcboiapggnmpfaaGreatDoorQay
import Derived.Test.YtcboiapggnmpfaaGreatDoorQae
namespace Go.Proofs.YtcboiapggnmpfaaGreatDoor
set_option maxRecDepth 100000
set_option maxHeartbeats 8000000
set_option linter.unusedSimpArgs false
set_option linter.unusedVariables false
open Go.RowKit
open Value (int slice)
open IntKind (i64)
def headOfP (hp:Nat→Int) (hw:Bool) (win:Int) (L:List (St×Value)) (s:Nat):List In :=
 match L[s]? with
 | some x=>headS hp hw win x.1.kind x.1.name x.1.tests
 | none=>[]
def TestsOk (ts:List Tst):Prop:=ts.length≤900∧∀t∈ts,(0≤t.left.of∧t.left.of≤100)∧(0≤t.right.of∧t.right.of≤100)∧(0≤t.more.of∧t.more.of≤100)
theorem holdA_names (l:List Int):HoldA (intsI (namesSt l).1).toArray (hpOf l):=by
 have h:=(namesSt_ok l).h
 refine ⟨by simp [intsI,h],?_⟩
 intro j hj
 have:(namesSt l).1[j]? = some ((namesSt l).1[j]'(by rw [h];exact hj)):=List.getElem?_eq_getElem _
 simp only [hpOf,List.getElem?_toArray,intsI,List.getElem?_map,this,Option.map_some,Option.getD_some]
theorem hpOf_bound (l:List Int) (hl:l.length≤100000) (j:Nat):0≤hpOf l j∧hpOf l j≤100000:=by
 unfold hpOf
 cases h:(namesSt l).1[j]? with
 | none=>simp
 | some x=>have:=(namesSt_ok l).b x (List.mem_of_getElem? h);simp;omega
structure Hs (W0 wr:World) (v:Value) (hs:List (Value×List In)):Prop where
 hds:Hds wr W0.heap.size v hs
 nw:Nw W0 wr
theorem Hs.next {W0 wr w':World} {v:Value} {hs:List (Value×List In)} (h:Hs W0 wr v hs) (k:Nw wr w'):Hs W0 w' v hs:=⟨h.hds.kp k (fun _ _ _ h=>h),h.nw.trans k⟩
theorem Hs.more {W0 wr w1 w':World} {v v' hv:Value} {hs:List (Value×List In)} {l:List In} (h:Hs W0 wr v hs) (h0:0<W0.heap.size) (k1:Nw wr w1) (hg:w1.grownBy w' v.ownBlock) (ho:w'.ownsRow W0.heap.size 53 1 v' (hs.length+1) (hs.map (·.1)++[hv])) (hl:w1.ownsRow W0.heap.size 120 14 hv l.length (codeC l)):Hs W0 w' v' (hs++[(hv,l)]):=by
 have h1:=h.next k1
 have kk:Kp (fun b=>b=0∨v.ownBlock=some b) w1 w':=(Kp.refl _ w1).grown hg (fun b hb=>Or.inr (Or.inr hb))
 refine ⟨⟨?_,?_⟩,h1.nw.grown hg (fun b hb=>Or.inl (h1.hds.row.lt b hb).1)⟩
 ·have e1:(hs++[(hv,l)]).length=hs.length+1:=by simp
  rw [e1,List.map_append];exact ho
 ·intro x hx
  rcases List.mem_append.1 hx with e|e
  ·exact ownsRow_apart (R:=0) (h1.hds.each x e) h1.hds.row (by decide) h0 kk
  ·simp only [List.mem_singleton] at e
   subst e
   exact ownsRow_apart (R:=0) hl h1.hds.row (by decide) h0 kk
theorem Tryz.infoSl:(Tryz.prog.info? 53).map (fun i=>(i.zero,i.size,i.bytes))=some (some (.slice none 0 0),1,24):=by kernel_rfl
theorem Tryz.underSS:Tryz.prog.underlying 107=some (.slice 53):=by kernel_rfl
theorem headsOf_any (nv sv stv:Value) (hw:Bool) (win:Int) (M:List Nd) (L:List (St×Value)) (S:List Nat) (w:World) (hP:PatM w nv sv M L) (hS:w.ownsRow 0 3 1 stv S.length (intsV S)) (hSL:∀s∈S,s<L.length) (hlen:S.length≤10000) (hL:L.length≤10000) (hL0:0<L.length) (htl:∀x∈L,TestsOk x.1.tests) :
  Calls Tryz.prog 45 #[.agg #[nv,sv,.bool hw,.int .i64 win],stv] w fun e w' =>
   ∃v hs,e=.returned v∧Hds w' w.heap.size v hs∧hs.map (·.2)=S.map (headOfP (hpOf ((List.range L.length).map (nmL L))) hw win L)∧Nw w w':=by
 obtain ⟨gl,cl,rfl⟩:=owns_some hP.steps hL0
 obtain ⟨sp,sc,rfl⟩:=ownsLenX hS
 have HP:Hid (PatM w nv (.slice (some ⟨gl,0,none⟩) L.length cl) M L):=hP
 have HS:Hid (w.ownsRow 0 3 1 (.slice sp S.length sc) S.length (intsV S)):=hS
 have HSL:Hid (∀s∈S,s<L.length):=hSL
 have HTL:Hid (∀x∈L,TestsOk x.1.tests):=htl
 have HPN:Hid (∀W,Nw w W→Calls Tryz.prog 73 #[.slice (some ⟨gl,0,none⟩) L.length cl] W fun e w'=>e=.returned (.agg (intsI (namesSt ((List.range L.length).map (nmL L))).1).toArray)∧Nw W w'):=fun W kW=>placesOfNames_any gl L.length cl (nmL L) (kdL L) W (hP.nw kW).sts hL
 have HHA:Hid (HoldA (intsI (namesSt ((List.range L.length).map (nmL L))).1).toArray (hpOf ((List.range L.length).map (nmL L)))):=holdA_names _
 have HHB:Hid (∀j,0≤hpOf ((List.range L.length).map (nmL L)) j∧hpOf ((List.range L.length).map (nmL L)) j≤100000):=hpOf_bound _ (by simp;omega)
 generalize hpOf ((List.range L.length).map (nmL L))=hp at *
 generalize intsI (namesSt ((List.range L.length).map (nmL L))).1=LL at *
 have hLL:LL.length=26:=by simpa using HHA.out.size
 have HLL:Hid (LL.length=26):=hLL
 have hiH:(Tryz.prog.info? 164).map (·.size)=some LL.length:=size_ho hLL
 have HIH:Hid ((Tryz.prog.info? 164).map (·.size)=some LL.length):=hiH
 obtain ⟨i1,hi1,hy0,hy1,hy2⟩:=info_parts Tryz.infoSl
 clear hP hS hSL htl hLL hiH
 go_enter Tryz.func45,Tryz.ntmps45
 go_wp2_with fail
 refine (HPN.out _ ((Kp.refl _ w).alloc _)).mono ?_
 rintro e w1 ⟨rfl,k1⟩
 have hb1:(w.alloc (.cells #[nv,.slice (some ⟨gl,0,none⟩) L.length cl,.bool hw,.int .i64 win] 70)).heap.size=w.heap.size+1:=by simp
 have hs1:w.heap.size+1≤w1.heap.size:=by have:=k1.size;rw [hb1] at this;exact this
 have HPB:Hid (∀W,Nw w1 W→W.cell? ⟨w.heap.size,0,none⟩=some nv∧W.cell? ⟨w.heap.size,1,none⟩=some (.slice (some ⟨gl,0,none⟩) L.length cl)∧W.cell? ⟨w.heap.size,2,none⟩=some (.bool hw)∧W.cell? ⟨w.heap.size,3,none⟩=some (.int .i64 win)):=by
  intro W kW
  have kc:∀o,W.cell? ⟨w.heap.size,o,none⟩=(w.alloc (.cells #[nv,.slice (some ⟨gl,0,none⟩) L.length cl,.bool hw,.int .i64 win] 70)).cell? ⟨w.heap.size,o,none⟩:=fun o=>(k1.trans kW).cell (p:=⟨w.heap.size,o,none⟩) (by rw [hb1];exact Nat.lt_succ_self _) (fun h=>h)
  refine ⟨?_,?_,?_,?_⟩ <;> (rw [kc];simp [go_sem,World.cell?_alloc_at])
 have HK1:Hid (Nw w w1):=((Kp.refl _ w).alloc _).trans k1
 have HR0:Hid (Row (w1.alloc (.cells (List.toArray [int i64 0,int i64 0,int i64 0,int i64 0,int i64 0,int i64 0,int i64 0,int i64 0,int i64 0,int i64 0,int i64 0,int i64 0,int i64 0,int i64 0,int i64 0,int i64 0,int i64 0,int i64 0,int i64 0,int i64 0,int i64 0,int i64 0,int i64 0,int i64 0,int i64 0,int i64 0]) 164)) w1.heap.size 164 ([]++([int i64 0,int i64 0,int i64 0,int i64 0,int i64 0,int i64 0,int i64 0,int i64 0,int i64 0,int i64 0,int i64 0,int i64 0,int i64 0,int i64 0,int i64 0,int i64 0,int i64 0,int i64 0,int i64 0,int i64 0,int i64 0,int i64 0,int i64 0,int i64 0,int i64 0,int i64 0]++[]))):=Row.new w1 [int i64 0,int i64 0,int i64 0,int i64 0,int i64 0,int i64 0,int i64 0,int i64 0,int i64 0,int i64 0,int i64 0,int i64 0,int i64 0,int i64 0,int i64 0,int i64 0,int i64 0,int i64 0,int i64 0,int i64 0,int i64 0,int i64 0,int i64 0,int i64 0,int i64 0,int i64 0] 164
 have HZL:Hid (([int i64 0,int i64 0,int i64 0,int i64 0,int i64 0,int i64 0,int i64 0,int i64 0,int i64 0,int i64 0,int i64 0,int i64 0,int i64 0,int i64 0,int i64 0,int i64 0,int i64 0,int i64 0,int i64 0,int i64 0,int i64 0,int i64 0,int i64 0,int i64 0,int i64 0,int i64 0]:List Value).length=LL.length):=by show _=_;rw [HLL.out];rfl
 have HOC:Hid (∀v∈LL,v.oneCell'=true):=by
  intro v hv
  obtain ⟨j,hj,rfl⟩:=List.getElem_of_mem hv
  have:=HHA.out.get j (by rw [HLL.out] at hj;exact hj)
  simp only [List.getElem?_toArray,List.getElem?_eq_getElem hj,Option.some.injEq] at this
  rw [this];rfl
 clear k1 HPN
 go_wp2_with (first|(with_reducible (show Go.wpList _ _ _ (({ dst:=_,op:=Op.store 164 _ _,type:=_,pos:=_,after:=_,guard:=_ }:Oper)::_) _ _);refine wpList_store_Row rfl 164 _ _ rfl w1.heap.size 0 LL rfl rfl 164 [] [int i64 0,int i64 0,int i64 0,int i64 0,int i64 0,int i64 0,int i64 0,int i64 0,int i64 0,int i64 0,int i64 0,int i64 0,int i64 0,int i64 0,int i64 0,int i64 0,int i64 0,int i64 0,int i64 0,int i64 0,int i64 0,int i64 0,int i64 0,int i64 0,int i64 0,int i64 0] [] HR0.out rfl HZL.out HIH.out HOC.out ?_;intro w2 hr2 hk2)|fail)
 have HK2:Hid (Nw w1 w2):=((Kp.refl _ w1).alloc _).trans' hk2 (by intro b hb h;omega)
 have HR2:Hid (Row w2 w1.heap.size 164 LL):=by have:=hr2;rw [List.nil_append,List.append_nil] at this;exact this
 have hs2:w1.heap.size<w2.heap.size:=HR2.out.lt
 clear hr2 hk2 HR0 HZL
 go_wp2
 go_loopg [6,7] S.length (fun m v6 v7 wr=>∃(i:Nat) (hs:List (Value×List In)),v7=.int .i64 i∧m=S.length - i∧i≤S.length∧hs.length=i∧hs.map (·.2)=(S.take i).map (headOfP hp hw win L)∧Hs w2 wr v6 hs)
 case atStart=>exact ⟨0,[],rfl,rfl,by omega,rfl,rfl,⟨⟨World.ownsRow_nil _ _ _ _,by intro x hx;simp at hx⟩,Kp.refl _ _⟩⟩
 case round =>
  obtain ⟨i,hs,rfl,hm,hi,hhl,hhe,hH⟩:=hrel
  have HM:Hid (_=S.length - i):=hm
  have HH:Hid (Hs w2 wr u6 hs):=hH
  have HHL:Hid (hs.length=i):=hhl
  have HHE:Hid (hs.map (·.2)=(S.take i).map (headOfP hp hw win L)):=hhe
  clear hm hH hhl hhe
  have hsz:=HH.out.nw.size
  by_cases hil:i<S.length
  ·obtain ⟨s,hs'⟩:∃s,S[i]? = some s:=⟨_,List.getElem?_eq_getElem hil⟩
   have HSI:Hid (S[i]? = some s):=hs'
   have hsL:s<L.length:=HSL.out s (List.mem_of_getElem? hs')
   obtain ⟨x,hx⟩:∃x,L[s]? = some x:=⟨_,List.getElem?_eq_getElem hsL⟩
   have HX:Hid (L[s]? = some x):=hx
   obtain ⟨gs,cs,hvs⟩:=owns_some HS.out (by omega)
   simp only [Value.slice.injEq,true_and] at hvs
   obtain ⟨rfl,rfl⟩:=hvs
   clear hs' hx
   obtain ⟨⟨xk,xn,xp,xt⟩,xv⟩:=x
   have HSW:Hid (∀W,Nw wr W→W.rangeAt w1.heap.size 0 LL∧W.cell? ⟨w.heap.size,0,none⟩=some nv∧W.cell? ⟨w.heap.size,1,none⟩=some (.slice (some ⟨gl,0,none⟩) L.length cl)∧W.cell? ⟨w.heap.size,2,none⟩=some (.bool hw)∧W.cell? ⟨w.heap.size,3,none⟩=some (.int .i64 win)∧W.cell? ⟨gs,i,none⟩=some (.int .i64 s)∧W.cell? ⟨gl,s*4,none⟩=some (.int .i64 xp)∧W.cell? ⟨gl,s*4+1,none⟩=some (.int .i64 xk)∧W.cell? ⟨gl,s*4+2,none⟩=some (.int .i64 xn)∧W.cell? ⟨gl,s*4+3,none⟩=some xv):=by
    intro W kW
    have k2W:Nw w2 W:=HH.out.nw.trans kW
    have k1W:Nw w1 W:=HK2.out.trans k2W
    have kwW:Nw w W:=HK1.out.trans k1W
    obtain ⟨y0,y1,y2,y3⟩:=HPB.out W k1W
    have so:=owns_kp HP.out.steps kwW (fun _ _ h=>h)
    refine ⟨?_,y0,y1,y2,y3,owns_cell (owns_kp HS.out kwW (fun _ _ h=>h)) i (intsV_get HSI.out),?_,?_,?_,?_⟩
    ·intro j v hv;rw [Nat.zero_add,(HR2.out.kp k2W (fun h=>h)).cell];exact hv
    ·exact owns_cell so (s*4+0) (by rw [stsC_get L s 0 _ HX.out (by omega)];rfl)
    ·exact owns_cell so (s*4+1) (by rw [stsC_get L s 1 _ HX.out (by omega)];rfl)
    ·exact owns_cell so (s*4+2) (by rw [stsC_get L s 2 _ HX.out (by omega)];rfl)
    ·exact owns_cell so (s*4+3) (by rw [stsC_get L s 3 _ HX.out (by omega)];rfl)
   have HHD:Hid (∀W,Nw wr W→Calls Tryz.prog 74 #[.agg LL.toArray,.agg #[nv,.slice (some ⟨gl,0,none⟩) L.length cl,.bool hw,.int .i64 win],.agg #[.int .i64 xp,.int .i64 xk,.int .i64 xn,xv]] W fun e w'=>∃v,e=.returned v∧w'.ownsRow W.heap.size 120 14 v (headS hp hw win xk xn xt).length (codeC (headS hp hw win xk xn xt))∧Nw W w'):=by
    intro W kW
    have hm:=List.mem_of_getElem? HX.out
    have ht:=HTL.out _ hm
    exact headOf_any LL hp HHA.out HHB.out nv _ hw win xp xk xn xv xt W (owns_kp (HP.out.tests _ hm) (HK1.out.trans (HK2.out.trans (HH.out.nw.trans kW))) (fun _ _ h=>h)) (by have h0:xt.length≤900:=ht.1;omega) ht.2
   have hgl:gl<wr.heap.size:=by have:=(HP.out.steps.lt gl rfl).2;have:=(HK1.out.trans (HK2.out.trans HH.out.nw)).size;omega
   have hgs:gs<wr.heap.size:=by have:=(HS.out.lt gs rfl).2;have:=(HK1.out.trans (HK2.out.trans HH.out.nw)).size;omega
   have hiH:=HIH.out
   have huH:=Tryz.underHo
   have HHX:Hid (headOfP hp hw win L s=headS hp hw win xk xn xt):=by show _=_;unfold headOfP;rw [HX.out]
   have HLEN:Hid ((headS hp hw win xk xn xt).length≤100000):=by have h1:=headS_len hp hw win xk xn xt;have h2:=(HTL.out _ (List.mem_of_getElem? HX.out)).1;show _≤_;simp only at h2;omega
   generalize headS hp hw win xk xn xt=hl at *
   go_wp2
   go_region_held3 (fun W=>W.rangeAt w1.heap.size 0 LL∧W.cell? ⟨w.heap.size,0,none⟩=some nv∧W.cell? ⟨w.heap.size,1,none⟩=some (.slice (some ⟨gl,0,none⟩) L.length cl)∧W.cell? ⟨w.heap.size,2,none⟩=some (.bool hw)∧W.cell? ⟨w.heap.size,3,none⟩=some (.int .i64 win)∧W.cell? ⟨gs,i,none⟩=some (.int .i64 s)∧W.cell? ⟨gl,s*4,none⟩=some (.int .i64 xp)∧W.cell? ⟨gl,s*4+1,none⟩=some (.int .i64 xk)∧W.cell? ⟨gl,s*4+2,none⟩=some (.int .i64 xn)∧W.cell? ⟨gl,s*4+3,none⟩=some xv) ((refine HSW.out _ ?_;repeat' (first|with_reducible exact Kp.refl _ _|with_reducible assumption|with_reducible refine Kp.drew ?_|with_reducible refine Kp.alloc ?_ _)))
    ((go_at_call 74;refine (HHD.out _ ((Kp.refl _ _).drew)).mono ?_;rintro e7 w7 ⟨hv7,rfl,ho7,k7⟩;have k8:Nw wr w7:=((Kp.refl _ _).drew).trans k7))
   all_goals
    have H8:Hid (Hs w2 w7 u6 hs):=HH.out.next k8
    have hs7:w2.heap.size≤w7.heap.size:=Nat.le_trans hsz k8.size
    have HO7:Hid (w7.ownsRow w2.heap.size 120 14 hv7 hl.length (codeC hl)):=owns_baseP ho7 hsz
    obtain ⟨hp7,hc7,hv7e⟩:=ownsLenX ho7
    subst hv7e
    have HOC7:Hid (∀u∈[slice hp7 hl.length hc7],u.oneCell'=true):=by intro u hu;simp only [List.mem_singleton] at hu;rw [hu];rfl
    have hrow:=H8.out.hds.row
    rw [HHL.out] at hrow
    clear ho7 k7 k8 HSW HHD
    go_wp2_with (at_builtin;refine wpList_append_lies _ rfl _ _ 107 rfl w2.heap.size 53 i1 (.slice none 0 0) 1 24 Tryz.underSS hi1 hy0 hy1 hy2 rfl (by decide) _ _ _ rfl (hrow.alloc _) ⟨w7.heap.size,0,none⟩ 1 1 [.slice hp7 hl.length hc7] rfl rfl ?c1 HOC7.out (by decide) ?c3 ?c4 ?c5 _ rfl ?_)
    case c1=>exact news_one w7 rfl _ _
    case c3=>unfold maxLen;omega
    case c4=>omega
    case c5=>simp;omega
    intro g3 cap3 w3 hown3 hgrow hat hlt3
    have H9:Hid (Hs w2 w3 (.slice (some ⟨g3,0,none⟩) (i+1) cap3) (hs++[(.slice hp7 hl.length hc7,hl)])):=H8.out.more (by omega) ((Kp.refl _ _).alloc _) hgrow (by rw [HHL.out];exact hown3) (HO7.out.alloc _)
    clear hown3 hgrow hat hrow
    go_wp2
    go_roundg (S.length - (i+1))
    case measure=>rw [HM.out];omega
    case rel=>exact ⟨i+1,hs++[(.slice hp7 hl.length hc7,hl)],by simp,rfl,by omega,by simp [HHL.out],by rw [List.take_add_one,HSI.out,Option.toList_some,List.map_append,List.map_append,HHE.out,List.map_singleton,List.map_singleton,HHX.out],H9.out⟩
  ·have hie:i=S.length:=by omega
   subst hie
   go_wp2
   go_ret
   exact ⟨_,hs,rfl,⟨owns_baseP HH.out.hds.row (by omega),fun x hx=>owns_baseP (HH.out.hds.each x hx) (by omega)⟩,by have:=HHE.out;rw [List.take_length] at this;exact this,HK1.out.trans (HK2.out.trans HH.out.nw)⟩
open Value (bool)
def begF (l:List In):Nat→List Bool→List Nat→List Nat→List Nat
 | 0,_,_,tk=>tk
 | n+1,bs,q,tk =>
  match q.getLast? with
  | none=>tk
  | some x =>
   match l[x]? with
   | none=>tk
   | some v =>
    if v.op=0 then begF l n bs q.dropLast (tk++[x])
    else if v.op=4∨v.op=5 then begF l n (mkB (mkB bs (nx1 v x)) (nx2 v x)) (mkQ (mkB bs (nx1 v x)) (mkQ bs q.dropLast (nx1 v x)) (nx2 v x)) tk
    else begF l n bs q.dropLast tk
def beginsS (l:List In):List Nat:=begF l (1+l.length) (mkB (List.replicate l.length false) 0) (mkQ (List.replicate l.length false) [] 0) []
theorem begF_nil (l:List In) (n:Nat) (bs:List Bool) (tk:List Nat):begF l n bs [] tk=tk:=by cases n <;> rfl
structure BgM (w:World) (R g cap gb:Nat) (l:List In) (ov tv:Value) (bs:List Bool) (q tk:List Nat):Prop where
 ws:WS w R g cap gb l ov bs q
 tk:w.ownsRow (R+1) 3 1 tv tk.length (intsV tk)
 ap:∀b,tv.ownBlock=some b→¬ov.ownBlock=some b
theorem BgM.step {w w':World} {R g cap gb:Nat} {l:List In} {ov ov' tv:Value} {bs bs':List Bool} {q q' tk:List Nat} (h:BgM w R g cap gb l ov tv bs q tk) (h':WS w' R g cap gb l ov' bs' q') (k:KF R gb ov ov' w w'):BgM w' R g cap gb l ov' tv bs' q' tk:=by
 have hR:=h.ws.hR
 refine ⟨h',owns_kp h.tk k.kp ?_,?_⟩
 ·rintro b hb (e|e|e)
  ·have:=(h.tk.lt b hb).1;omega
  ·have:=(h.tk.lt b hb).1;omega
  ·exact h.ap b hb e
 ·intro b hb e
  rcases k.ow b e with e' | e'
  ·exact h.ap b hb e'
  ·have:=(h.tk.lt b hb).2;omega
theorem BgM.more {w w1 w':World} {R g cap gb:Nat} {l:List In} {ov tv tv':Value} {bs:List Bool} {q tk:List Nat} {x:Nat} (h:BgM w R g cap gb l ov tv bs q tk) (k1:Nw w w1) (hg:w1.grownBy w' tv.ownBlock) (ho:w'.ownsRow (R+1) 3 1 tv' (tk.length+1) (intsV tk++[.int .i64 (x:Int)])) (hat:∀b,tv'.ownBlock=some b→tv.ownBlock=some b∨w1.heap.size≤b):BgM w' R g cap gb l ov tv' bs q (tk++[x]):=by
 have kk:Kp (fun b=>tv.ownBlock=some b) w w':=(k1.mono (fun _ _ h=>h.elim)).grown hg (fun b hb=>Or.inr hb)
 have hR:=h.ws.hR
 have hgg:=h.ws.hg
 have nb:∀b,b≤R→¬tv.ownBlock=some b:=by intro b hb e;have:=(h.tk.lt b e).1;omega
 refine ⟨⟨h.ws.wk.sm (kk.sm h.ws.wk.lt (nb R (Nat.le_refl _))),h.ws.code.kp kk (nb g (by omega)),h.ws.row.kp kk (nb gb (by omega)),owns_kp h.ws.own kk (fun b hb e=>h.ap b e hb),h.ws.len,h.ws.cnt,h.ws.hg,h.ws.hR,h.ws.ne⟩,?_,?_⟩
 ·have e1:(tk++[x]).length=tk.length+1:=by simp
  have e2:intsV (tk++[x])=intsV tk++[.int .i64 (x:Int)]:=by simp [intsV]
  rw [e1,e2];exact ho
 ·intro b hb e
  rcases hat b hb with e' | e'
  ·exact h.ap b e' e
  ·have:=(h.ws.own.lt b e).2;have:=k1.size;omega
theorem mkQ_lt {bs:List Bool} {q:List Nat} {n:Nat} (h:∀y∈q,y<n) (hb:bs.length=n) (z:Int):∀y∈mkQ bs q z,y<n:=by
 unfold mkQ
 split
 ·rename_i hc
  intro y hy
  rcases List.mem_append.1 hy with e|e
  ·exact h y e
  ·simp only [List.mem_singleton] at e
   have:=(List.getElem?_eq_some_iff.1 hc.2).1
   omega
 ·exact h
theorem begins_any (g cap:Nat) (l:List In) (w:World) (hc:Code' w g l) (hA:AllIns l) (h0:0<l.length) (hn:l.length≤1000) :
  Calls Tryz.prog 52 #[.slice (some ⟨g,0,none⟩) l.length cap] w fun e w' =>
   ∃v,e=.returned v∧w'.ownsRow w.heap.size 3 1 v (beginsS l).length (intsV (beginsS l))∧Nw w w':=by
 have hl:=hc.lt
 obtain ⟨i0,hi0,hz0,hz1,hz2⟩:=info_parts Tryz.info4
 obtain ⟨i1,hi1,hy0,hy1,hy2⟩:=info_parts Tryz.info3
 have HAI:Hid (AllIns l):=hA
 clear hA
 go_enter Tryz.func52,Tryz.ntmps52
 go_wp2_with (first|(at_make;refine wpList_make_full _ rfl _ _ 170 rfl w.heap.size 4 i0 (.bool false) 1 Tryz.underlying170 hi0 hz0 hz1 _ _ _ _ l.length rfl rfl rfl rfl ?b1 ?b2 ?b3 ?_)|fail)
 case b1=>rw [hz2];omega
 case b2=>unfold maxLen;omega
 case b3=>exact Nat.le_refl _
 intro w1 hown1 hgrow1
 have R1:Hid (Row w1 w.heap.size 4 ((List.replicate l.length false).map bool)):=by
  have:=Row.of_full hown1
  rw [made_bools] at this
  exact this
 have K1:Hid (Nw w w1):=(Kp.refl _ w).grown hgrow1 (by intro k hk;cases hk)
 have hs1:=R1.out.lt
 have C1:Hid (Code' w1 g l):=hc.kp K1.out (fun h=>h)
 clear hown1 hgrow1
 have W0:Hid (WS (w1.alloc (.cells #[.slice (some ⟨g,0,none⟩) l.length cap,.slice (some ⟨w.heap.size,0,none⟩) l.length l.length,.slice none 0 0] 172)) w1.heap.size g cap w.heap.size l (.slice none 0 0) (List.replicate l.length false) []):=by
  refine ⟨?_,C1.out.kp ((Kp.refl (fun _=>False) w1).alloc _) (fun h=>h),R1.out.alloc _,World.ownsRow_nil _ _ _ _,by simp,by simp,hl,by omega,by simp [Value.ownBlock]⟩
  constructor <;> simp [go_sem,World.cell?_alloc_at,World.frozen?_alloc_at]
 have K2:Hid (Nw w (w1.alloc (.cells #[.slice (some ⟨g,0,none⟩) l.length cap,.slice (some ⟨w.heap.size,0,none⟩) l.length l.length,.slice none 0 0] 172))):=K1.out.alloc _
 go_wp2_with fail
 refine (reachZF_any w1.heap.size g cap w.heap.size 0 l _ _ _ _ W0.out (Or.inr ⟨0,rfl,h0⟩) hn).mono ?_
 rintro e w2 ⟨rfl,ov2,hw2,k2⟩
 have HB0:Hid (BgM w2 w1.heap.size g cap w.heap.size l ov2 (.slice none 0 0) (mkB (List.replicate l.length false) 0) (mkQ (List.replicate l.length false) [] 0) []):=⟨hw2,World.ownsRow_nil _ _ _ _,fun b hb=>by simp [Value.ownBlock] at hb⟩
 have K3:Hid (Nw w w2):=K2.out.trans' k2.kp (by rintro b hb (e|e|e) <;> first|omega|simp [Value.ownBlock] at e)
 have HC0:Hid ((mkQ (List.replicate l.length false) [] 0).length+(mkB (List.replicate l.length false) 0).count false≤1+l.length):=by
  show _≤_
  rw [mk_cnt];simp
 have HBG:Hid (beginsS l=begF l (1+l.length) (mkB (List.replicate l.length false) 0) (mkQ (List.replicate l.length false) [] 0) []):=rfl
 have HQ0:Hid (∀y∈mkQ (List.replicate l.length false) [] 0,y<l.length):=mkQ_lt (by simp) (by simp) 0
 generalize mkB (List.replicate l.length false) 0=bs0 at *
 generalize mkQ (List.replicate l.length false) [] 0=q0 at *
 clear hw2 k2 W0 R1 C1
 go_wp2
 go_loopg [4] (1+l.length) (fun m v4 wr=>∃(ov:Value) (bs:List Bool) (q tk:List Nat),q.length+bs.count false≤m∧tk.length+m≤1+l.length∧begF l m bs q tk=beginsS l∧(∀y∈q,y<l.length)∧BgM wr w1.heap.size g cap w.heap.size l ov v4 bs q tk∧Nw w wr)
 case atStart=>exact ⟨ov2,bs0,q0,[],HC0.out,by simp,HBG.out.symm,HQ0.out,HB0.out,K3.out⟩
 case round =>
  obtain ⟨ov,bs,q,tk,hm,htl,hbe,hql,hB,hK⟩:=hrel
  have H:Hid (BgM wr w1.heap.size g cap w.heap.size l ov u4 bs q tk):=hB
  have HBE:Hid (begF l gk bs q tk=beginsS l):=hbe
  have HQL:Hid (∀y∈q,y<l.length):=hql
  have HK:Hid (Nw w wr):=hK
  obtain ⟨⟨c0,c1,c2,fz⟩,hcode,hrow,hown,hlen,hcnt,hg,hR,hne⟩:=hB.ws
  have hRl:w1.heap.size<wr.heap.size:=H.out.ws.wk.lt
  clear hB hK hbe hql hrow
  by_cases hq:q=[]
  ·subst hq
   have hlen0:∃p cc,ov=.slice p 0 cc:=ownsLenX hown
   obtain ⟨p,cc,rfl⟩:=hlen0
   have HF:Hid (tk=beginsS l):=by have:=HBE.out;rw [begF_nil] at this;exact this
   go_wp2
   go_ret
   exact ⟨_,rfl,by rw [←HF.out];exact owns_baseP H.out.tk (by omega),HK.out⟩
  ·obtain ⟨q',x,rfl⟩:=snoc_of hq
   obtain ⟨go,cpo,rfl,hgo1,hgo2⟩:=hown.form (by simp)
   have hxl:x<l.length:=HQL.out x (by simp)
   obtain ⟨v,hv⟩:∃v,l[x]? = some v:=⟨l[x],by simp [hxl]⟩
   have cat:wr.cell? ⟨go,q'.length,none⟩=some (.int .i64 x):=owns_cell hown q'.length (by simp [intsV])
   have cop:wr.cell? ⟨g,x*14,none⟩=some (.int .i64 v.op):=(hcode.ins x v hv).cells.1
   have hRgo:¬go=w1.heap.size:=by simpa [Value.ownBlock] using hne
   have hRg:¬g=w1.heap.size:=by omega
   have hRg':¬w1.heap.size=g:=by omega
   have HV:Hid (l[x]? = some v):=hv
   have hql:q'.length≤1001:=by simp at hcnt;omega
   have hpo:¬cpo<q'.length:=by have:=owns_cap hown;simp at this;omega
   simp only [List.length_append,List.length_cons,List.length_nil] at c2
   have kp:Kp (fun b=>b=w1.heap.size) wr (wr.setCell ⟨w1.heap.size,2,none⟩ (.slice (some ⟨go,0,none⟩) q'.length cpo)):=(Kp.refl (fun b=>b=w1.heap.size) wr).setCell (p:=⟨w1.heap.size,2,none⟩) (Or.inr rfl) _
   have HW2:Hid (BgM (wr.setCell ⟨w1.heap.size,2,none⟩ (.slice (some ⟨go,0,none⟩) q'.length cpo)) w1.heap.size g cap w.heap.size l (.slice (some ⟨go,0,none⟩) q'.length cpo) u4 bs q' tk):=by
    refine H.out.step ⟨H.out.ws.wk.set2 _,H.out.ws.code.kp kp hRg,H.out.ws.row.kp kp (by omega),?_,hlen,by simp at hcnt;omega,hg,hR,by simpa [Value.ownBlock] using hRgo⟩ ⟨kp.mono (fun b _ e=>Or.inl e),fun b hb=>Or.inl (by simpa [Value.ownBlock] using hb)⟩
    have ho:=H.out.ws.own
    have e2:intsV (q'++[x])=intsV q'++[.int .i64 (x:Int)]:=by simp [intsV]
    rw [e2] at ho
    simp only [List.length_append,List.length_cons,List.length_nil] at ho
    exact owns_kp (owns_pop ho) kp (by intro b hb e;simp [Value.ownBlock] at hb;omega)
   have HK2:Hid (Nw w (wr.setCell ⟨w1.heap.size,2,none⟩ (.slice (some ⟨go,0,none⟩) q'.length cpo))):=HK.out.setCell (p:=⟨w1.heap.size,2,none⟩) (Or.inl (by show w.heap.size≤w1.heap.size;omega)) _
   simp only [List.length_append,List.length_cons,List.length_nil] at hm
   obtain ⟨n,rfl⟩:∃n,gk=n+1:=⟨gk - 1,by omega⟩
   have HBE2:Hid ((if v.op=0 then begF l n bs q' (tk++[x]) else if v.op=4∨v.op=5 then begF l n (mkB (mkB bs (nx1 v x)) (nx2 v x)) (mkQ (mkB bs (nx1 v x)) (mkQ bs q' (nx1 v x)) (nx2 v x)) tk else begF l n bs q' tk)=beginsS l):=by
    have:=HBE.out
    simp only [begF,List.getLast?_append,List.getLast?_singleton,Option.some_or,HV.out,List.dropLast_concat] at this
    exact this
   have HQ':Hid (∀y∈q',y<l.length):=fun y hy=>HQL.out y (by simp [hy])
   clear hown hcode hv hne kp HBE HQL H HB0 HBG HC0
   by_cases h0:v.op=0
   ·rw [if_pos h0] at HBE2
    rw [h0] at cop
    obtain ⟨up,uc,hu4⟩:=ownsLenX HW2.out.tk
    subst hu4
    go_wp2_with (at_builtin;refine wpList_append_lies _ rfl _ _ 22 rfl (w1.heap.size+1) 3 i1 (.int .i64 0) 1 8 Tryz.underlying22 hi1 hy0 hy1 hy2 rfl (by decide) _ _ _ rfl (HW2.out.tk.alloc _) ⟨wr.heap.size,0,none⟩ 1 1 [.int .i64 (x:Int)] rfl rfl ?e1 ?e2 (by decide) ?e3 ?e4 ?e5 _ rfl ?_)
    case e1=>exact news_one _ (by simp) _ _
    case e2=>exact intsV_one [x]
    case e3=>unfold maxLen;omega
    case e4=>omega
    case e5=>simp;omega
    intro g3 cap3 w3 hown3 hgrow hat hlt3
    have H3:Hid (BgM w3 w1.heap.size g cap w.heap.size l (.slice (some ⟨go,0,none⟩) q'.length cpo) (.slice (some ⟨g3,0,none⟩) (tk.length+1) cap3) bs q' (tk++[x])):=HW2.out.more ((Kp.refl _ _).alloc _) hgrow hown3 (by
     intro b hb
     simp only [Value.ownBlock,Option.some.injEq] at hb
     subst hb
     rcases hat with e|e
     ·exact Or.inl e
     ·right;rw [e];first|exact Nat.le_refl _|simp)
    have HK3:Hid (Nw w w3):=(HK2.out.alloc _).grown hgrow (fun b hb=>Or.inl (by have:=(HW2.out.tk.lt b hb).1;omega))
    clear hown3 hgrow hat c0 c1 c2 fz cat cop
    go_wp2
    go_roundg n
    case measure=>omega
    case rel=>exact ⟨_,bs,q',tk++[x],by omega,by simp;omega,HBE2.out,HQ'.out,H3.out,HK3.out⟩
   ·rw [if_neg h0] at HBE2
    have g0:(v.op == 0)=false:=by simpa using h0
    by_cases h45:v.op=4∨v.op=5
    ·rw [if_pos h45] at HBE2
     have hws:=HW2.out.ws
     have hlenB:bs.length=l.length:=hlen
     have HM2:Hid ((mkQ (mkB bs (nx1 v x)) (mkQ bs q' (nx1 v x)) (nx2 v x)).length+(mkB (mkB bs (nx1 v x)) (nx2 v x)).count false≤n):=by
      show _≤_
      rw [mk_cnt,mk_cnt];omega
     have HQ2:Hid (∀y∈mkQ (mkB bs (nx1 v x)) (mkQ bs q' (nx1 v x)) (nx2 v x),y<l.length):=mkQ_lt (mkQ_lt HQ'.out hlenB _) (by rw [mkB_len];exact hlenB) _
     have HLF:Hid (Calls Tryz.prog 81 #[.pointer (some ⟨w1.heap.size,0,none⟩),.int .i64 x] (wr.setCell ⟨w1.heap.size,2,none⟩ (.slice (some ⟨go,0,none⟩) q'.length cpo)) (ReachZF (wr.setCell ⟨w1.heap.size,2,none⟩ (.slice (some ⟨go,0,none⟩) q'.length cpo)) w1.heap.size g cap w.heap.size l (.slice (some ⟨go,0,none⟩) q'.length cpo) (mkB (mkB bs (nx1 v x)) (nx2 v x)) (mkQ (mkB bs (nx1 v x)) (mkQ bs q' (nx1 v x)) (nx2 v x)))):=leaveF_any w1.heap.size g cap w.heap.size l _ bs q' x v _ HW2.out.ws HV.out HAI.out hn
     generalize mkQ (mkB bs (nx1 v x)) (mkQ bs q' (nx1 v x)) (nx2 v x)=q2 at *
     generalize mkB (mkB bs (nx1 v x)) (nx2 v x)=bs2 at *
     clear hws hlenB
     have HGO:Hid (go<wr.heap.size):=hgo2
     rcases h45 with h4|h4
     all_goals
      rw [h4] at cop
      clear g0 h0 h4
      go_wp2_with fail
      refine HLF.out.mono ?_
      rintro e4 w4 ⟨rfl,ov4,hws4,kf4⟩
      have H4:Hid (BgM w4 w1.heap.size g cap w.heap.size l ov4 u4 bs2 q2 tk):=HW2.out.step hws4 kf4
      have HK4:Hid (Nw w w4):=HK2.out.trans' kf4.kp (by
       rintro b hb (e|e|e)
       ·omega
       ·omega
       ·simp only [Value.ownBlock,Option.some.injEq] at e;omega)
      clear hws4 kf4 c0 c1 c2 fz cat cop HLF
      go_wp2
      go_roundg n
      case measure=>omega
      case rel=>exact ⟨ov4,bs2,q2,tk,HM2.out,by omega,HBE2.out,HQ2.out,H4.out,HK4.out⟩
    ·rw [if_neg h45] at HBE2
     have g4:(v.op == 4)=false:=by simp;omega
     have g5:(v.op == 5)=false:=by simp;omega
     clear h45 h0
     go_wp2
     go_roundg n
     case measure=>omega
     case rel=>exact ⟨_,bs,q',tk,by omega,by omega,HBE2.out,HQ'.out,HW2.out,HK2.out⟩
end Go.Proofs.YtcboiapggnmpfaaGreatDoor
