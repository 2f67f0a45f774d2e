import Derived.Test.YtcboiapggnmpfaaGreatDoorQax
import Derived.Test.YtcboiapggnmpfaaGreatDoorQap
import Derived.Deep.MidRow
import Derived.Test.YtcboiapggnmpfaaGreatDoorQas
import Derived.Test.YtcboiapggnmpfaaGreatDoorQae
namespace Go.Proofs.YtcboiapggnmpfaaGreatDoor
set_option maxRecDepth 100000
set_option maxHeartbeats 2000000
set_option linter.unusedSimpArgs false
set_option linter.unusedVariables false
open Go.RowKit
open Value (int)
def NameR (nm kd:Nat→Int) (M:Nat) (rep:Bool) (k:Nat) (kind name:Int):Prop:=rep=false∧hasN M name=false∧(firstOf nm name k<k→kd (firstOf nm name k)=kind)
theorem nameR_any (g k c:Nat) (nm kd:Nat→Int) (pos kind name:Int) (tp:Option Addr) (tn tc:Nat) (M S:Nat) (hM:M<2 ^ 26) (rep:Bool) (w:World) (h:StsM w g k nm kd) (hn:k≤10000) :
  Calls Tryz.prog 66 #[.slice (some ⟨g,0,none⟩) k c,.agg #[.int .i64 pos,.int .i64 kind,.int .i64 name,.slice tp tn tc],.agg #[.int .i64 M,.int .i64 S,.bool rep]] w (SayP w (NameR nm kd M rep k kind name)):=by
 have H:Hid (StsM w g k nm kd):=h
 have hlt:=h.lt
 clear h
 have HFN:Hid (∀W,Nw w W→Calls Tryz.prog 94 #[.slice (some ⟨g,0,none⟩) k c,.int .i64 name] W fun e w'=>e=.returned (.int .i64 (firstOf nm name k:Nat))∧Nw W w'):=fun W kW=>firstNamed_any g k c nm kd name W (H.out.nw kW) hn
 have hfl:=firstOf_le nm name k
 have HKD:Hid (∀W,Nw w W→firstOf nm name k<k→W.cell? ⟨g,firstOf nm name k*4+1,none⟩=some (.int .i64 (kd (firstOf nm name k)))):=fun W kW h=>(H.out.nw kW).k _ h
 have HHS:Hid (∀W,Calls Tryz.prog 93 #[.int .i64 M,.int .i64 name] W fun e w'=>e=.returned (.bool (hasN M name))∧w'=W):=fun W=>hasSet_any M name W hM
 have HP:Hid (NameR nm kd M rep k kind name↔(rep=false∧hasN M name=false∧(firstOf nm name k<k→kd (firstOf nm name k)=kind))):=Iff.rfl
 generalize NameR nm kd M rep k kind name=pp at *
 generalize firstOf nm name k=F at *
 generalize hasN M name=B1 at *
 generalize kd F=kF at *
 cases rep with
 | true =>
  go_enter Tryz.func66,Tryz.ntmps66
  go_wp2
  go_ret
  exact ⟨false,rfl,⟨(fun h=>by cases h),fun h=>by have:=(HP.out.1 h).1;cases this⟩,((Kp.refl _ w).alloc _).alloc _⟩
 | false =>
  go_enter Tryz.func66,Tryz.ntmps66
  go_wp2_with fail
  refine (HHS.out _).mono ?_
  rintro e9 w9 ⟨rfl,rfl⟩
  cases B1 with
  | true =>
   go_wp2
   go_ret
   exact ⟨false,rfl,⟨(fun h=>by cases h),fun h=>by have:=(HP.out.1 h).2.1;cases this⟩,((Kp.refl _ w).alloc _).alloc _⟩
  | false =>
   go_wp2_with fail
   refine (HFN.out _ (((Kp.refl _ w).alloc _).alloc _)).mono ?_
   rintro e w1 ⟨rfl,k1⟩
   obtain ⟨b1,b2,hl1,kk⟩:=box2 k1
   have K1:Hid (Nw w w1):=kk
   have c1:=b1 1 _ rfl
   have hx:=HKD.out w1 kk
   clear b1 b2 k1 kk HFN HKD
   by_cases hF:F=k
   ·have g1:((F:Int) == (k:Int))=true:=by simp [hF]
    have HT:Hid pp:=HP.out.2 ⟨by first|rfl|trivial,by first|rfl|trivial,fun h=>by omega⟩
    clear hx hF
    go_wp2
    go_quiet (fail)
    go_wp2
    go_ret
    exact ⟨true,rfl,⟨fun _=>HT.out,fun _=>rfl⟩,by first|exact K1.out|exact K1.out.drewN _⟩
   ·have g1:((F:Int) == (k:Int))=false:=by simp;omega
    have hFk:F<k:=by omega
    have hcF:=hx hFk
    have HT:Hid ((kF == kind)=true↔pp):=by
     constructor
     ·intro h;exact HP.out.2 ⟨by first|rfl|trivial,by first|rfl|trivial,fun _=>by simpa using h⟩
     ·intro h;simpa using (HP.out.1 h).2.2 hFk
    clear hx hF
    go_wp2
    go_quiet (fail)
    go_wp2
    go_ret
    exact ⟨_,rfl,HT.out,by first|exact K1.out|exact K1.out.drewN _⟩
theorem tstsC_get:∀(M:List Tst) (i j:Nat) (x:Tst),M[i]? = some x→j<11→(tstsC M)[i*11+j]? = (tstC x)[j]?:=by
 intro M
 induction M with
 | nil=>intro i j x h;simp at h
 | cons y r ih =>
  intro i j x h hj
  have e:tstsC (y::r)=tstC y++tstsC r:=by simp [tstsC]
  have hl:(tstC y).length=11:=rfl
  rw [e]
  cases i with
  | zero=>simp at h;subst h;rw [List.getElem?_append_left (by omega)];simp
  | succ i =>
   simp at h
   rw [List.getElem?_append_right (by omega),hl]
   have:(i+1)*11+j - 11=i*11+j:=by omega
   rw [this];exact ih i j x h hj
def TestR (l:List Int) (nm kd:Nat→Int) (S k:Nat) (kind:Int) (t:Tst):Prop:=TermR l nm kd S k kind t.left.of t.left.field∧TermR l nm kd S k kind t.right.of t.right.field∧TermR l nm kd S k kind t.more.of t.more.field
def TstB (t:Tst):Prop:=(0≤t.left.of∧t.left.of≤27)∧(0≤t.right.of∧t.right.of≤27)∧(0≤t.more.of∧t.more.of≤27)
theorem owns_test {w:World} {tv:Value} {ts:List Tst} (h:w.ownsRow 0 118 11 tv ts.length (tstsC ts)) (hp:0<ts.length):∃gt ct,tv=.slice (some ⟨gt,0,none⟩) ts.length ct∧gt<w.heap.size∧∀i x j v,ts[i]? = some x→j<11→(tstC x)[j]? = some v→w.cell? ⟨gt,i*11+j,none⟩=some v:=by
 obtain ⟨gt,ct,rfl⟩:=owns_someX h hp
 exact ⟨gt,ct,rfl,(h.lt gt rfl).2,fun i x j v hx hj hv=>owns_cell h (i*11+j) (by rw [tstsC_get ts i j x hx hj];exact hv)⟩
theorem testsR_any (l:List Int) (hl:l.length≤4) (g k c:Nat) (nm kd:Nat→Int) (S:Nat) (hS:S<2 ^ 26) (pos kind name:Int) (tv:Value) (ts:List Tst) (hb:∀t∈ts,TstB t) (w:World) (h:StsM w g k nm kd) (hn:k≤10000) (ht:w.ownsRow 0 118 11 tv ts.length (tstsC ts)) (htn:ts.length≤10000) :
  Calls Tryz.prog 67 #[schV l,.slice (some ⟨g,0,none⟩) k c,.agg #[.int .i64 pos,.int .i64 kind,.int .i64 name,tv],.int .i64 S] w (SayP w (∀t∈ts,TestR l nm kd S k kind t)):=by
 have H:Hid (StsM w g k nm kd):=h
 have hlt:=h.lt
 clear h
 have HTR:Hid (∀(of fd num:Int) W,Nw w W→0≤of∧of≤27→Calls Tryz.prog 95 #[schV l,.slice (some ⟨g,0,none⟩) k c,.int .i64 kind,.agg #[.int .i64 of,.int .i64 fd,.int .i64 num],.int .i64 S] W (SayP W (TermR l nm kd S k kind of fd))):=fun of fd num W kW hof=>termR_any l hl g k c nm kd S hS kind of fd num hof W (H.out.nw kW) hn
 have HB:Hid (∀t∈ts,TstB t):=hb
 obtain ⟨tp,tn,tc,htv⟩:∃p n c,tv=.slice p n c:=by obtain ⟨p,c,h⟩:=ownsLenX ht;exact ⟨p,_,c,h⟩
 have htl:tn=ts.length:=by obtain ⟨p,c,h⟩:=ownsLenX ht;rw [htv] at h;simp at h;exact h.2.1
 have HT:Hid (0<ts.length→∃gt ct,tv=.slice (some ⟨gt,0,none⟩) ts.length ct∧gt<w.heap.size∧∀i x j v,ts[i]? = some x→j<11→(tstC x)[j]? = some v→w.cell? ⟨gt,i*11+j,none⟩=some v):=owns_test ht
 subst htv htl
 clear hb ht
 unfold schV at *
 go_enter Tryz.func67,Tryz.ntmps67
 go_wp2
 go_loopg [9] ts.length (fun m v9 wr=>∃i:Nat,v9=.int .i64 i∧m=ts.length - i∧i≤ts.length∧(∀j t,j<i→ts[j]? = some t→TestR l nm kd S k kind t)∧Nw ((w.alloc (.cells #[.int .i64 l.length,.int .i64 (scF l 0),.int .i64 (scF l 1),.int .i64 (scF l 2),.int .i64 (scF l 3)] 75)).alloc (.cells #[.int .i64 pos,.int .i64 kind,.int .i64 name,.slice tp ts.length tc] 100)) wr)
 case atStart=>exact ⟨0,rfl,rfl,by omega,(fun j t hj=>by omega),Kp.refl _ _⟩
 case round =>
  obtain ⟨i,rfl,hm,hi,hall,hk⟩:=hrel
  have HM:Hid (_=ts.length - i):=hm
  have HA:Hid (∀j t,j<i→ts[j]? = some t→TestR l nm kd S k kind t):=hall
  obtain ⟨b1,b2,hl1,kk⟩:=box2 hk
  have HK:Hid (Nw w wr):=kk
  have HK0:Hid (Nw ((w.alloc (.cells #[.int .i64 l.length,.int .i64 (scF l 0),.int .i64 (scF l 1),.int .i64 (scF l 2),.int .i64 (scF l 3)] 75)).alloc (.cells #[.int .i64 pos,.int .i64 kind,.int .i64 name,.slice tp ts.length tc] 100)) wr):=hk
  have c3:=b2 3 _ rfl
  clear hm hall
  by_cases hil:i<ts.length
  ·obtain ⟨gt,ct,he,hgt,hcell⟩:=HT.out (by omega)
   simp only [Value.slice.injEq,true_and] at he
   obtain ⟨rfl,rfl⟩:=he
   obtain ⟨t,hti⟩:∃t,ts[i]? = some t:=⟨_,List.getElem?_eq_getElem hil⟩
   have HTI:Hid (ts[i]? = some t):=hti
   have hcw:∀j v,j<11→(tstC t)[j]? = some v→wr.cell? ⟨gt,i*11+j,none⟩=some v:=fun j v hj hv=>(kk.cell hgt (fun h=>h)).trans (hcell i t j v hti hj hv)
   have t0:=hcw 0 _ (by omega) rfl
   rw [Nat.add_zero] at t0
   have t1:=hcw 1 _ (by omega) rfl
   have t2:=hcw 2 _ (by omega) rfl
   have t3:=hcw 3 _ (by omega) rfl
   have t4:=hcw 4 _ (by omega) rfl
   have t5:=hcw 5 _ (by omega) rfl
   have t6:=hcw 6 _ (by omega) rfl
   have t7:=hcw 7 _ (by omega) rfl
   have t8:=hcw 8 _ (by omega) rfl
   have t9:=hcw 9 _ (by omega) rfl
   have t10:=hcw 10 _ (by omega) rfl
   obtain ⟨q1,q2,q3⟩:=HB.out t (List.mem_of_getElem? hti)
   clear hcell hcw hti b1 b2 kk hk
   go_wp2
   generalize hW:((wr.alloc (.cells #[.int .i64 t.left.of,.int .i64 t.left.field,.int .i64 t.left.num,.int .i64 t.rel,.int .i64 t.right.of,.int .i64 t.right.field,.int .i64 t.right.num,.int .i64 t.arith,.int .i64 t.more.of,.int .i64 t.more.field,.int .i64 t.more.num] 118)).alloc (.cells #[.int .i64 t.left.of,.int .i64 t.left.field,.int .i64 t.left.num,.int .i64 t.right.of,.int .i64 t.right.field,.int .i64 t.right.num,.int .i64 t.more.of,.int .i64 t.more.field,.int .i64 t.more.num] _))=W
   have K0W:Hid (Nw ((w.alloc (.cells #[.int .i64 l.length,.int .i64 (scF l 0),.int .i64 (scF l 1),.int .i64 (scF l 2),.int .i64 (scF l 3)] 75)).alloc (.cells #[.int .i64 pos,.int .i64 kind,.int .i64 name,.slice (some ⟨gt,0,none⟩) ts.length tc] 100)) W):=by
    show Nw _ _
    rw [←hW];exact (HK0.out.alloc _).alloc _
   have HTW:Hid (∀W',Nw W W'→∀(j:Nat) v,#[int .i64 t.left.of,.int .i64 t.left.field,.int .i64 t.left.num,.int .i64 t.right.of,.int .i64 t.right.field,.int .i64 t.right.num,.int .i64 t.more.of,.int .i64 t.more.field,.int .i64 t.more.num][j]? = some v→W'.cell? ⟨wr.heap.size+1,j,none⟩=some v):=by
    intro W' k'
    rw [←hW] at k'
    exact (box2 k').2.1
   clear hW t0 t1 t2 t3 t4 t5 t6 t7 t8 t9 t10
   generalize wr.heap.size+1=tb at *
   go_loopg [12] 3 (fun m v12 wr=>∃j:Nat,v12=.int .i64 j∧m=3 - j∧j≤3∧(1≤j→TermR l nm kd S k kind t.left.of t.left.field)∧(2≤j→TermR l nm kd S k kind t.right.of t.right.field)∧(3≤j→TermR l nm kd S k kind t.more.of t.more.field)∧Nw W wr)
   case atStart=>exact ⟨0,rfl,rfl,by omega,(fun h=>by omega),(fun h=>by omega),(fun h=>by omega),Kp.refl _ _⟩
   case round =>
    obtain ⟨j,rfl,hm,hj,r1,r2,r3,hkq⟩:=hrel
    have HMQ:Hid (_=3 - j):=hm
    have R1:Hid (1≤j→TermR l nm kd S k kind t.left.of t.left.field):=r1
    have R2:Hid (2≤j→TermR l nm kd S k kind t.right.of t.right.field):=r2
    have R3:Hid (3≤j→TermR l nm kd S k kind t.more.of t.more.field):=r3
    have KQ:Hid (Nw W wr):=hkq
    have hb0:=K0W.out.trans hkq
    obtain ⟨b1,b2,hlq,kwq⟩:=box2 hb0
    have KWQ:Hid (Nw w wr):=kwq
    have s0:=b1 0 _ rfl
    have s1:=b1 1 _ rfl
    have s2:=b1 2 _ rfl
    have s3:=b1 3 _ rfl
    have s4:=b1 4 _ rfl
    have p1:=b2 1 _ rfl
    have hj4:j=0∨j=1∨j=2∨j=3:=by omega
    clear hm r1 r2 r3 b1 b2 hb0
    rcases hj4 with rfl|rfl|rfl|rfl
    ·have x0:=HTW.out wr hkq 0 _ rfl
     have x1:=HTW.out wr hkq 1 _ rfl
     have x2:=HTW.out wr hkq 2 _ rfl
     have HTC:Hid (∀n,Calls Tryz.prog 95 #[.agg #[.int .i64 l.length,.int .i64 (scF l 0),.int .i64 (scF l 1),.int .i64 (scF l 2),.int .i64 (scF l 3)],.slice (some ⟨g,0,none⟩) k c,.int .i64 kind,.agg #[.int .i64 t.left.of,.int .i64 t.left.field,.int .i64 t.left.num],.int .i64 S] (wr.drewN n) (SayP (wr.drewN n) (TermR l nm kd S k kind t.left.of t.left.field))):=fun n=>HTR.out t.left.of t.left.field t.left.num _ (kwq.drewN n) q1
     obtain ⟨tt,htt⟩:∃tt:Prop,tt=TermR l nm kd S k kind t.left.of t.left.field:=⟨_,rfl⟩
     have HTT:Hid (tt=TermR l nm kd S k kind t.left.of t.left.field):=htt
     rw [←htt] at HTC
     have htb:tb<wr.heap.size:=World.block_lt_of_cell? wr ⟨tb,0,none⟩ x0
     have HSW:Hid (∀W',Nw wr W'→(W'.cell? ⟨w.heap.size,0,none⟩=some (.int .i64 l.length)∧W'.cell? ⟨w.heap.size,1,none⟩=some (.int .i64 (scF l 0))∧W'.cell? ⟨w.heap.size,2,none⟩=some (.int .i64 (scF l 1))∧W'.cell? ⟨w.heap.size,3,none⟩=some (.int .i64 (scF l 2))∧W'.cell? ⟨w.heap.size,4,none⟩=some (.int .i64 (scF l 3))∧W'.cell? ⟨w.heap.size+1,1,none⟩=some (.int .i64 kind)∧W'.cell? ⟨tb,0,none⟩=some (.int .i64 t.left.of)∧W'.cell? ⟨tb,1,none⟩=some (.int .i64 t.left.field)∧W'.cell? ⟨tb,2,none⟩=some (.int .i64 t.left.num))):=by
      intro W' kW
      have y0:w.heap.size<wr.heap.size:=by omega
      exact ⟨(kW.cell y0 (fun h=>h)).trans s0,(kW.cell y0 (fun h=>h)).trans s1,(kW.cell y0 (fun h=>h)).trans s2,(kW.cell y0 (fun h=>h)).trans s3,(kW.cell y0 (fun h=>h)).trans s4,(kW.cell hlq (fun h=>h)).trans p1,(kW.cell htb (fun h=>h)).trans x0,(kW.cell htb (fun h=>h)).trans x1,(kW.cell htb (fun h=>h)).trans x2⟩
     clear htt hkq kwq
     go_wp2
     go_region_held3 (fun w'=>w'.cell? ⟨w.heap.size,0,none⟩=some (.int .i64 l.length)∧w'.cell? ⟨w.heap.size,1,none⟩=some (.int .i64 (scF l 0))∧w'.cell? ⟨w.heap.size,2,none⟩=some (.int .i64 (scF l 1))∧w'.cell? ⟨w.heap.size,3,none⟩=some (.int .i64 (scF l 2))∧w'.cell? ⟨w.heap.size,4,none⟩=some (.int .i64 (scF l 3))∧w'.cell? ⟨w.heap.size+1,1,none⟩=some (.int .i64 kind)∧w'.cell? ⟨tb,0,none⟩=some (.int .i64 t.left.of)∧w'.cell? ⟨tb,1,none⟩=some (.int .i64 t.left.field)∧w'.cell? ⟨tb,2,none⟩=some (.int .i64 t.left.num)) (first|exact HSW.out _ (Kp.refl _ _)|exact HSW.out _ ((Kp.refl _ _).drewN _)|exact HSW.out _ (((Kp.refl _ _).drewN _).trans k9)|exact HSW.out _ k9)
      ((first|(go_at_call 95;refine (HTC.out _).mono ?_;rintro e9 w9 ⟨b9,rfl,hb9,k9⟩)))
     all_goals
      have KN:Hid (Nw W w9):=by first|exact KQ.out.trans k9|exact (KQ.out.drewN _).trans k9
      have KNW:Hid (Nw w w9):=by first|exact KWQ.out.trans k9|exact (KWQ.out.drewN _).trans k9
      have HB9:Hid (b9=true↔tt):=hb9
      clear hb9 k9 HTC HSW
      cases b9 with
      | false =>
       have HNO:Hid (¬∀t∈ts,TestR l nm kd S k kind t):=by
        intro h
        have h2:=h t (List.mem_of_getElem? HTI.out)
        have h3:tt:=by rw [HTT.out];exact h2.1
        have:=HB9.out.2 h3
        simp at this
       go_wp2
       go_ret
       exact ⟨false,rfl,⟨(fun h=>by cases h),fun h=>absurd h HNO.out⟩,KNW.out⟩
      | true =>
       have HYES:Hid (TermR l nm kd S k kind t.left.of t.left.field):=by
        have:=HB9.out.1 (by first|rfl|trivial)
        rw [HTT.out] at this
        exact this
       go_wp2
       go_roundg (3 - (0+1))
       case measure=>rw [HMQ.out];omega
       case rel=>exact ⟨0+1,by simp,rfl,by omega,(fun h=>by first|exact HYES.out|exact R1.out (by omega)|omega),(fun h=>by first|exact HYES.out|exact R2.out (by omega)|omega),(fun h=>by first|exact HYES.out|exact R3.out (by omega)|omega),KN.out⟩
    ·have x0:=HTW.out wr hkq 3 _ rfl
     have x1:=HTW.out wr hkq 4 _ rfl
     have x2:=HTW.out wr hkq 5 _ rfl
     have HTC:Hid (∀n,Calls Tryz.prog 95 #[.agg #[.int .i64 l.length,.int .i64 (scF l 0),.int .i64 (scF l 1),.int .i64 (scF l 2),.int .i64 (scF l 3)],.slice (some ⟨g,0,none⟩) k c,.int .i64 kind,.agg #[.int .i64 t.right.of,.int .i64 t.right.field,.int .i64 t.right.num],.int .i64 S] (wr.drewN n) (SayP (wr.drewN n) (TermR l nm kd S k kind t.right.of t.right.field))):=fun n=>HTR.out t.right.of t.right.field t.right.num _ (kwq.drewN n) q2
     obtain ⟨tt,htt⟩:∃tt:Prop,tt=TermR l nm kd S k kind t.right.of t.right.field:=⟨_,rfl⟩
     have HTT:Hid (tt=TermR l nm kd S k kind t.right.of t.right.field):=htt
     rw [←htt] at HTC
     have htb:tb<wr.heap.size:=World.block_lt_of_cell? wr ⟨tb,3,none⟩ x0
     have HSW:Hid (∀W',Nw wr W'→(W'.cell? ⟨w.heap.size,0,none⟩=some (.int .i64 l.length)∧W'.cell? ⟨w.heap.size,1,none⟩=some (.int .i64 (scF l 0))∧W'.cell? ⟨w.heap.size,2,none⟩=some (.int .i64 (scF l 1))∧W'.cell? ⟨w.heap.size,3,none⟩=some (.int .i64 (scF l 2))∧W'.cell? ⟨w.heap.size,4,none⟩=some (.int .i64 (scF l 3))∧W'.cell? ⟨w.heap.size+1,1,none⟩=some (.int .i64 kind)∧W'.cell? ⟨tb,3,none⟩=some (.int .i64 t.right.of)∧W'.cell? ⟨tb,4,none⟩=some (.int .i64 t.right.field)∧W'.cell? ⟨tb,5,none⟩=some (.int .i64 t.right.num))):=by
      intro W' kW
      have y0:w.heap.size<wr.heap.size:=by omega
      exact ⟨(kW.cell y0 (fun h=>h)).trans s0,(kW.cell y0 (fun h=>h)).trans s1,(kW.cell y0 (fun h=>h)).trans s2,(kW.cell y0 (fun h=>h)).trans s3,(kW.cell y0 (fun h=>h)).trans s4,(kW.cell hlq (fun h=>h)).trans p1,(kW.cell htb (fun h=>h)).trans x0,(kW.cell htb (fun h=>h)).trans x1,(kW.cell htb (fun h=>h)).trans x2⟩
     clear htt hkq kwq
     go_wp2
     go_region_held3 (fun w'=>w'.cell? ⟨w.heap.size,0,none⟩=some (.int .i64 l.length)∧w'.cell? ⟨w.heap.size,1,none⟩=some (.int .i64 (scF l 0))∧w'.cell? ⟨w.heap.size,2,none⟩=some (.int .i64 (scF l 1))∧w'.cell? ⟨w.heap.size,3,none⟩=some (.int .i64 (scF l 2))∧w'.cell? ⟨w.heap.size,4,none⟩=some (.int .i64 (scF l 3))∧w'.cell? ⟨w.heap.size+1,1,none⟩=some (.int .i64 kind)∧w'.cell? ⟨tb,3,none⟩=some (.int .i64 t.right.of)∧w'.cell? ⟨tb,4,none⟩=some (.int .i64 t.right.field)∧w'.cell? ⟨tb,5,none⟩=some (.int .i64 t.right.num)) (first|exact HSW.out _ (Kp.refl _ _)|exact HSW.out _ ((Kp.refl _ _).drewN _)|exact HSW.out _ (((Kp.refl _ _).drewN _).trans k9)|exact HSW.out _ k9)
      ((first|(go_at_call 95;refine (HTC.out _).mono ?_;rintro e9 w9 ⟨b9,rfl,hb9,k9⟩)))
     all_goals
      have KN:Hid (Nw W w9):=by first|exact KQ.out.trans k9|exact (KQ.out.drewN _).trans k9
      have KNW:Hid (Nw w w9):=by first|exact KWQ.out.trans k9|exact (KWQ.out.drewN _).trans k9
      have HB9:Hid (b9=true↔tt):=hb9
      clear hb9 k9 HTC HSW
      cases b9 with
      | false =>
       have HNO:Hid (¬∀t∈ts,TestR l nm kd S k kind t):=by
        intro h
        have h2:=h t (List.mem_of_getElem? HTI.out)
        have h3:tt:=by rw [HTT.out];exact h2.2.1
        have:=HB9.out.2 h3
        simp at this
       go_wp2
       go_ret
       exact ⟨false,rfl,⟨(fun h=>by cases h),fun h=>absurd h HNO.out⟩,KNW.out⟩
      | true =>
       have HYES:Hid (TermR l nm kd S k kind t.right.of t.right.field):=by
        have:=HB9.out.1 (by first|rfl|trivial)
        rw [HTT.out] at this
        exact this
       go_wp2
       go_roundg (3 - (1+1))
       case measure=>rw [HMQ.out];omega
       case rel=>exact ⟨1+1,by simp,rfl,by omega,(fun h=>by first|exact HYES.out|exact R1.out (by omega)|omega),(fun h=>by first|exact HYES.out|exact R2.out (by omega)|omega),(fun h=>by first|exact HYES.out|exact R3.out (by omega)|omega),KN.out⟩
    ·have x0:=HTW.out wr hkq 6 _ rfl
     have x1:=HTW.out wr hkq 7 _ rfl
     have x2:=HTW.out wr hkq 8 _ rfl
     have HTC:Hid (∀n,Calls Tryz.prog 95 #[.agg #[.int .i64 l.length,.int .i64 (scF l 0),.int .i64 (scF l 1),.int .i64 (scF l 2),.int .i64 (scF l 3)],.slice (some ⟨g,0,none⟩) k c,.int .i64 kind,.agg #[.int .i64 t.more.of,.int .i64 t.more.field,.int .i64 t.more.num],.int .i64 S] (wr.drewN n) (SayP (wr.drewN n) (TermR l nm kd S k kind t.more.of t.more.field))):=fun n=>HTR.out t.more.of t.more.field t.more.num _ (kwq.drewN n) q3
     obtain ⟨tt,htt⟩:∃tt:Prop,tt=TermR l nm kd S k kind t.more.of t.more.field:=⟨_,rfl⟩
     have HTT:Hid (tt=TermR l nm kd S k kind t.more.of t.more.field):=htt
     rw [←htt] at HTC
     have htb:tb<wr.heap.size:=World.block_lt_of_cell? wr ⟨tb,6,none⟩ x0
     have HSW:Hid (∀W',Nw wr W'→(W'.cell? ⟨w.heap.size,0,none⟩=some (.int .i64 l.length)∧W'.cell? ⟨w.heap.size,1,none⟩=some (.int .i64 (scF l 0))∧W'.cell? ⟨w.heap.size,2,none⟩=some (.int .i64 (scF l 1))∧W'.cell? ⟨w.heap.size,3,none⟩=some (.int .i64 (scF l 2))∧W'.cell? ⟨w.heap.size,4,none⟩=some (.int .i64 (scF l 3))∧W'.cell? ⟨w.heap.size+1,1,none⟩=some (.int .i64 kind)∧W'.cell? ⟨tb,6,none⟩=some (.int .i64 t.more.of)∧W'.cell? ⟨tb,7,none⟩=some (.int .i64 t.more.field)∧W'.cell? ⟨tb,8,none⟩=some (.int .i64 t.more.num))):=by
      intro W' kW
      have y0:w.heap.size<wr.heap.size:=by omega
      exact ⟨(kW.cell y0 (fun h=>h)).trans s0,(kW.cell y0 (fun h=>h)).trans s1,(kW.cell y0 (fun h=>h)).trans s2,(kW.cell y0 (fun h=>h)).trans s3,(kW.cell y0 (fun h=>h)).trans s4,(kW.cell hlq (fun h=>h)).trans p1,(kW.cell htb (fun h=>h)).trans x0,(kW.cell htb (fun h=>h)).trans x1,(kW.cell htb (fun h=>h)).trans x2⟩
     clear htt hkq kwq
     go_wp2
     go_region_held3 (fun w'=>w'.cell? ⟨w.heap.size,0,none⟩=some (.int .i64 l.length)∧w'.cell? ⟨w.heap.size,1,none⟩=some (.int .i64 (scF l 0))∧w'.cell? ⟨w.heap.size,2,none⟩=some (.int .i64 (scF l 1))∧w'.cell? ⟨w.heap.size,3,none⟩=some (.int .i64 (scF l 2))∧w'.cell? ⟨w.heap.size,4,none⟩=some (.int .i64 (scF l 3))∧w'.cell? ⟨w.heap.size+1,1,none⟩=some (.int .i64 kind)∧w'.cell? ⟨tb,6,none⟩=some (.int .i64 t.more.of)∧w'.cell? ⟨tb,7,none⟩=some (.int .i64 t.more.field)∧w'.cell? ⟨tb,8,none⟩=some (.int .i64 t.more.num)) (first|exact HSW.out _ (Kp.refl _ _)|exact HSW.out _ ((Kp.refl _ _).drewN _)|exact HSW.out _ (((Kp.refl _ _).drewN _).trans k9)|exact HSW.out _ k9)
      ((first|(go_at_call 95;refine (HTC.out _).mono ?_;rintro e9 w9 ⟨b9,rfl,hb9,k9⟩)))
     all_goals
      have KN:Hid (Nw W w9):=by first|exact KQ.out.trans k9|exact (KQ.out.drewN _).trans k9
      have KNW:Hid (Nw w w9):=by first|exact KWQ.out.trans k9|exact (KWQ.out.drewN _).trans k9
      have HB9:Hid (b9=true↔tt):=hb9
      clear hb9 k9 HTC HSW
      cases b9 with
      | false =>
       have HNO:Hid (¬∀t∈ts,TestR l nm kd S k kind t):=by
        intro h
        have h2:=h t (List.mem_of_getElem? HTI.out)
        have h3:tt:=by rw [HTT.out];exact h2.2.2
        have:=HB9.out.2 h3
        simp at this
       go_wp2
       go_ret
       exact ⟨false,rfl,⟨(fun h=>by cases h),fun h=>absurd h HNO.out⟩,KNW.out⟩
      | true =>
       have HYES:Hid (TermR l nm kd S k kind t.more.of t.more.field):=by
        have:=HB9.out.1 (by first|rfl|trivial)
        rw [HTT.out] at this
        exact this
       go_wp2
       go_roundg (3 - (2+1))
       case measure=>rw [HMQ.out];omega
       case rel=>exact ⟨2+1,by simp,rfl,by omega,(fun h=>by first|exact HYES.out|exact R1.out (by omega)|omega),(fun h=>by first|exact HYES.out|exact R2.out (by omega)|omega),(fun h=>by first|exact HYES.out|exact R3.out (by omega)|omega),KN.out⟩
    ·have HT3:Hid (∀j t',j<i+1→ts[j]? = some t'→TestR l nm kd S k kind t'):=by
      intro j t' hj ht'
      by_cases e:j=i
      ·subst e
       have:=HTI.out
       rw [ht'] at this
       simp only [Option.some.injEq] at this
       subst this
       exact ⟨R1.out (by omega),R2.out (by omega),R3.out (by omega)⟩
      ·exact HA.out j t' (by omega) ht'
     go_wp2
     go_roundg (ts.length - (i+1))
     case measure=>rw [HM.out];omega
     case rel=>exact ⟨i+1,by simp,rfl,by omega,HT3.out,K0W.out.trans KQ.out⟩
  ·have hie:i=ts.length:=by omega
   subst hie
   have HP:Hid (∀t∈ts,TestR l nm kd S k kind t):=by
    intro t ht
    obtain ⟨j,hj⟩:=List.mem_iff_getElem?.1 ht
    exact HA.out j t (List.getElem?_eq_some_iff.1 hj).1 hj
   clear b1 b2 hk
   go_wp2
   go_ret
   exact ⟨true,rfl,⟨fun _=>HP.out,fun _=>rfl⟩,HK.out⟩
def nmL (L:List (St×Value)) (k:Nat):Int:=((L[k]?).map (·.1.name)).getD (-1)
def kdL (L:List (St×Value)) (k:Nat):Int:=((L[k]?).map (·.1.kind)).getD 0
theorem nmL_at {L:List (St×Value)} {k:Nat} {x:St×Value} (h:L[k]? = some x):nmL L k=x.1.name∧kdL L k=x.1.kind:=by simp [nmL,kdL,h]
theorem PatM.sts {w:World} {gs cs:Nat} {nv:Value} {M:List Nd} {L:List (St×Value)} (h:PatM w nv (.slice (some ⟨gs,0,none⟩) L.length cs) M L):StsM w gs L.length (nmL L) (kdL L):=by
 refine ⟨(h.steps.lt gs rfl).2,fun i hi => ?_,fun i hi => ?_⟩
 ·obtain ⟨x,hx⟩:∃x,L[i]? = some x:=⟨_,List.getElem?_eq_getElem hi⟩
  rw [(nmL_at hx).2];exact (h.step hx).2.1
 ·obtain ⟨x,hx⟩:∃x,L[i]? = some x:=⟨_,List.getElem?_eq_getElem hi⟩
  rw [(nmL_at hx).1];exact (h.step hx).2.2.1
theorem new_iff {L:List (St×Value)} {i:Nat} {x:St×Value} (hx:L[i]? = some x) (h0:0≤x.1.name):isNew L i x.1.name=true↔firstOf (nmL L) x.1.name L.length=i:=by
 have hil:=(List.getElem?_eq_some_iff.1 hx).1
 have hb:isNew L i x.1.name=true↔∀j,j<i→¬nmL L j=x.1.name:=by
  simp only [isNew,Bool.and_eq_true,decide_eq_true_eq,List.all_eq_true,bne_iff_ne,ne_eq]
  constructor
  ·rintro ⟨_,h⟩ j hj
   obtain ⟨y,hy⟩:∃y,L[j]? = some y:=⟨_,List.getElem?_eq_getElem (by omega)⟩
   rw [(nmL_at hy).1]
   exact h y (List.mem_of_getElem? (by rw [List.getElem?_take_of_lt hj];exact hy))
  ·intro h
   refine ⟨h0,fun y hy => ?_⟩
   obtain ⟨j,hj⟩:=List.mem_iff_getElem?.1 hy
   have hjl:=(List.getElem?_eq_some_iff.1 hj).1
   have hji:j<i:=by rw [List.length_take] at hjl;omega
   rw [List.getElem?_take_of_lt hji] at hj
   rw [←(nmL_at hj).1];exact h j hji
 rw [hb]
 constructor
 ·intro h;exact firstOf_is hil (nmL_at hx).1 h
 ·intro h j hj e
  obtain ⟨f1,f2⟩:=firstOf_spec (nmL L) x.1.name L.length
  exact (f1 (by omega)).2 j (by omega) e
theorem countNames_any (g c:Nat) (L:List (St×Value)) (hN:∀x∈L,x.1.name = -1∨0≤x.1.name) (w:World) (h:StsM w g L.length (nmL L) (kdL L)) (hn:L.length≤10000) :
  Calls Tryz.prog 68 #[.slice (some ⟨g,0,none⟩) L.length c] w fun e w'=>e=.returned (.int .i64 ((slotsTo L L.length).length:Nat))∧Nw w w':=by
 have H:Hid (StsM w g L.length (nmL L) (kdL L)):=h
 have hlt:=h.lt
 clear h
 have HN:Hid (∀x∈L,x.1.name = -1∨0≤x.1.name):=hN
 clear hN
 have HFN:Hid (∀W nmx,Nw w W→Calls Tryz.prog 94 #[.slice (some ⟨g,0,none⟩) L.length c,.int .i64 nmx] W fun e w'=>e=.returned (.int .i64 (firstOf (nmL L) nmx L.length:Nat))∧Nw W w'):=fun W x kW=>firstNamed_any g L.length c (nmL L) (kdL L) x W (H.out.nw kW) hn
 go_enter Tryz.func68,Tryz.ntmps68
 go_wp2
 go_loopg [3,4] L.length (fun m v3 v4 wr=>∃i:Nat,v3=.int .i64 ((slotsTo L i).length:Nat)∧v4=.int .i64 i∧m=L.length - i∧i≤L.length∧Nw w wr)
 case atStart=>exact ⟨0,rfl,rfl,rfl,by omega,Kp.refl _ _⟩
 case round =>
  obtain ⟨i,rfl,rfl,hm,hi,hk⟩:=hrel
  have HM:Hid (_=L.length - i):=hm
  have HK:Hid (Nw w wr):=hk
  have hsl:=slotsTo_len L i
  clear hm
  by_cases hil:i<L.length
  ·obtain ⟨x,hx⟩:∃x,L[i]? = some x:=⟨_,List.getElem?_eq_getElem hil⟩
   have d:=(H.out.nw hk).m i hil
   rw [(nmL_at hx).1] at d
   have hsx:slotsTo L (i+1)=if isNew L i x.1.name=true then slotsTo L i++[x.1.name] else slotsTo L i:=by simp only [slotsTo,hx]
   have hnx:=HN.out x (List.mem_of_getElem? hx)
   have hni:=fun h=>new_iff hx h
   generalize x.1.name=xn at *
   clear hk
   by_cases h1:xn = -1
   ·have g1:(xn != -1)=false:=by simp [h1]
    have HS:Hid (slotsTo L (i+1)=slotsTo L i):=by
     show _=_
     rw [hsx,if_neg]
     simp [isNew,h1]
    clear h1 hsx hnx hni hx
    go_wp2
    go_roundg (L.length - (i+1))
    case measure=>rw [HM.out];omega
    case rel=>exact ⟨i+1,by rw [HS.out],by simp,rfl,by omega,HK.out⟩
   ·have g1:(xn != -1)=true:=by simp [h1]
    have hnew:=hni (by omega)
    clear h1 hni hnx hx
    go_wp2_with fail
    refine (HFN.out _ _ HK.out).mono ?_
    rintro e w1 ⟨rfl,k1⟩
    have K1:Hid (Nw w w1):=HK.out.trans k1
    clear k1
    generalize firstOf (nmL L) xn L.length=F at *
    by_cases hF:F=i
    ·have g2:((F:Int) == (i:Int))=true:=by simp [hF]
     have HS:Hid ((slotsTo L (i+1)).length=(slotsTo L i).length+1):=by
      show _=_
      rw [hsx,if_pos (hnew.2 hF)];simp
     clear hsx hnew hF
     generalize (slotsTo L i).length=sl at *
     go_wp2
     go_roundg (L.length - (i+1))
     case measure=>rw [HM.out];omega
     case rel=>exact ⟨i+1,by rw [HS.out];simp,by simp,rfl,by omega,K1.out⟩
    ·have g2:((F:Int) == (i:Int))=false:=by simp;omega
     have HS:Hid ((slotsTo L (i+1)).length=(slotsTo L i).length):=by
      show _=_
      rw [hsx,if_neg (fun h=>hF (hnew.1 h))]
     clear hsx hnew hF
     generalize (slotsTo L i).length=sl at *
     go_wp2
     go_roundg (L.length - (i+1))
     case measure=>rw [HM.out];omega
     case rel=>exact ⟨i+1,by rw [HS.out],by simp,rfl,by omega,K1.out⟩
  ·have hie:i=L.length:=by omega
   subst hie
   clear hk
   go_wp2
   go_ret
   exact ⟨rfl,HK.out⟩
end Go.Proofs.YtcboiapggnmpfaaGreatDoor
