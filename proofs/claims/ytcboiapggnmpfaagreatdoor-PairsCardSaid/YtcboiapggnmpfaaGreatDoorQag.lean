import Derived.Test.YtcboiapggnmpfaaGreatDoorQad
import Derived.Test.YtcboiapggnmpfaaGreatDoorQaa
import Derived.Deep.DeepCutAuto
import Derived.Deep.AppendLies
namespace Go.Proofs.YtcboiapggnmpfaaGreatDoor
set_option maxRecDepth 100000
set_option maxHeartbeats 2000000
set_option linter.unusedSimpArgs false
set_option linter.unusedVariables false
open Go.RowKit
def tstV (t:Tst):Value:=.agg #[.int .i64 t.left.of,.int .i64 t.left.field,.int .i64 t.left.num,.int .i64 t.rel,.int .i64 t.right.of,.int .i64 t.right.field,.int .i64 t.right.num,.int .i64 t.arith,.int .i64 t.more.of,.int .i64 t.more.field,.int .i64 t.more.num]
def TestPost (s:ByteArray) (R:Nat) (nv sv:Value) (w:World) (r:Option Tst×List Tok) (e:Ending) (w':World):Prop :=
 ∃t b,e=.returned (.tuple #[tstV t,.bool b])∧r.1=(if b=true then some t else none)∧RdPost s R nv sv w r.2 w'
def set11 (w:World) (b:Nat) (v0 v1 v2 v3 v4 v5 v6 v7 v8 v9 v10:Value):World:=(((((((((((w.setCell ⟨b,0,none⟩ v0).setCell ⟨b,1,none⟩ v1).setCell ⟨b,2,none⟩ v2).setCell ⟨b,3,none⟩ v3).setCell ⟨b,4,none⟩ v4).setCell ⟨b,5,none⟩ v5).setCell ⟨b,6,none⟩ v6).setCell ⟨b,7,none⟩ v7).setCell ⟨b,8,none⟩ v8).setCell ⟨b,9,none⟩ v9).setCell ⟨b,10,none⟩ v10)
theorem Rd.set11 {w:World} {R:Nat} {s:ByteArray} {i:Nat} {nv sv:Value} (h:Rd w R s i nv sv) {b:Nat} (hb:¬b=R) (v0 v1 v2 v3 v4 v5 v6 v7 v8 v9 v10:Value):Rd (set11 w b v0 v1 v2 v3 v4 v5 v6 v7 v8 v9 v10) R s i nv sv :=
 ((((((((((h.other hb _).other hb _).other hb _).other hb _).other hb _).other hb _).other hb _).other hb _).other hb _).other hb _).other hb _
theorem Kp.set11 {S:Nat→Prop} {a w:World} (h:Kp S a w) {b:Nat} (hb:a.heap.size≤b∨S b) (v0 v1 v2 v3 v4 v5 v6 v7 v8 v9 v10:Value):Kp S a (Go.Proofs.YtcboiapggnmpfaaGreatDoor.set11 w b v0 v1 v2 v3 v4 v5 v6 v7 v8 v9 v10) :=
 ((((((((((h.setCell (p:=⟨b,0,none⟩) hb _).setCell (p:=⟨b,1,none⟩) hb _).setCell (p:=⟨b,2,none⟩) hb _).setCell (p:=⟨b,3,none⟩) hb _).setCell (p:=⟨b,4,none⟩) hb _).setCell (p:=⟨b,5,none⟩) hb _).setCell (p:=⟨b,6,none⟩) hb _).setCell (p:=⟨b,7,none⟩) hb _).setCell (p:=⟨b,8,none⟩) hb _).setCell (p:=⟨b,9,none⟩) hb _).setCell (p:=⟨b,10,none⟩) hb _
theorem relO_of {c:Int} (h:isRelB c=true):relO c=relV c:=by simp [relO,h]
theorem relO_not {c:Int} (h:isRelB c=false):relO c = -1:=by simp [relO,h]
theorem relV_bounds (c:Int):0≤relV c∧relV c≤3:=by
 unfold relV;split
 ·omega
 split
 ·omega
 split <;> omega
theorem isRel_pos {c:Int} (h:isRelB c=true):35≤c∧c≤62:=by
 have:((c=60∨c=62)∨c=61)∨c=35:=by simpa [isRelB] using h
 omega
theorem pTest_none {l x:List Tok} (h:pTerm l=(none,x)):pTest l=(none,x):=by simp [pTest,h]
theorem pTest_norel {l x:List Tok} {a:Tm} (h:pTerm l=(some a,x)) (hr:isRelB (hd x)=false):pTest l=(none,x):=by
 match x,hr with
 | [],_=>simp [pTest,h]
 | (c,p)::r,hr=>simp only [hd] at hr;simp [pTest,h,hr]
theorem pTest_rel {l r:List Tok} {a:Tm} {c:Int} {p:Nat} (h:pTerm l=(some a,(c,p)::r)) (hr:isRelB c=true) :
  pTest l=match pTerm r with|(none,x)=>(none,x)|(some b,x)=>pTail a c b x:=by simp only [pTest,h,if_pos hr];rfl
theorem pTail_not {a b:Tm} {c:Int} {x:List Tok} (h:isArithB (hd x)=false):pTail a c b x=(some ⟨a,relV c,b,0,tm0⟩,x):=by
 match x,h with
 | [],_=>rfl
 | (d,q)::r,h=>simp only [hd] at h;simp [pTail,h]
theorem pTail_ar {a b:Tm} {c d:Int} {q:Nat} {r:List Tok} (h:isArithB d=true) :
  pTail a c b ((d,q)::r)=match pTerm r with|(none,x)=>(none,x)|(some m,x)=>(some ⟨a,relV c,b,arithV d,m⟩,x):=by simp only [pTail,if_pos h];rfl
theorem pair_eq {α β:Type} {p:α×β} {a:α} (h:p.1=a):p=(a,p.2):=by rw [←h]
theorem readTest_any (s:ByteArray) (R i:Nat) (nv sv:Value) (l:List Tok) (w:World) (h:Rd w R s i nv sv) (hs:s.size≤maxLen) (ha:At s i l) :
  Calls Tryz.prog 131 #[.pointer (some ⟨R,0,none⟩)] w (TestPost s R nv sv w (pTest l)):=by
 have hl:=h.lt
 have hne:¬w.heap.size=R:=by omega
 go_enter Tryz.func131,Tryz.ntmps131
 go_wp2_with fail
 refine (readTerm_any s R i nv sv l _ (h.alloc _) hs ha).mono ?_
 rintro e w1 ⟨a0,a1,a2,b1,rfl,hv,j,q1,q2,q3⟩
 obtain ⟨f1,g1,s1⟩:=q3.at (B:=w.heap.size) (by simp) hne
 have hl1:=q2.lt
 have hne1:¬w1.heap.size=R:=by omega
 have hneB:¬w1.heap.size=w.heap.size:=by omega
 have hneB':¬w.heap.size=w1.heap.size:=by omega
 generalize hx1:(pTerm l).2=x1 at q1
 have HX1:Hid ((pTerm l).2=x1):=hx1
 have HV:Hid ((pTerm l).1=if b1=true then some ⟨a0,a1,a2⟩ else none):=hv
 have Q1:Hid (At s j x1):=q1
 clear hx1 hv q1
 obtain ⟨b2,b3⟩:=Q1.out.hd_bounds
 generalize hc1:hd x1=c1 at b2 b3
 have HC1:Hid (hd x1=c1):=hc1
 clear hc1
 go_wp2_with fail
 refine (peek_at (s:=s) (i:=j) (nv:=nv) (sv:=sv) (l:=x1) (q2.alloc _) hs Q1.out).mono ?_
 rw [HC1.out]
 rintro e w2 ⟨rfl,n1,rfl⟩
 go_wp2_with fail
 cases b1 with
 | false =>
  refine (relOf_any _ _ b2 b3).mono ?_
  rintro e w2 ⟨rfl,rfl⟩
  go_wp2
  refine bodyPost_ret (by simp [results,Tryz.results131,go_sem,f1,s1,World.cell?_alloc_past];rfl) rfl ?_
  go_light
  rw [pTest_none (x:=x1) (by rw [pair_eq HV.out,HX1.out];rfl)]
  refine ⟨tst0,false,rfl,rfl,j,Q1.out,?_,?_⟩
  ·exact (((q2.alloc _).drewN _).set11 hne _ _ _ _ _ _ _ _ _ _ _)
  ·exact (((((Kp.refl (fun k=>k=R) w).alloc _).trans q3).alloc _).drewN _).set11 (Or.inl (Nat.le_refl _)) _ _ _ _ _ _ _ _ _ _ _
 | true =>
  have HT:Hid (pTerm l=(some ⟨a0,a1,a2⟩,x1)):=by show pTerm l=_;rw [pair_eq HV.out,HX1.out];rfl
  clear HV HX1
  rcases Bool.eq_false_or_eq_true (isRelB c1) with hr|hr
  ·have hrb:=isRel_pos hr
   have hrv:=relV_bounds c1
   obtain ⟨p1,r1,hlr⟩:=hd_cons_of HC1.out (by omega)
   have HLR:Hid (x1=(c1,p1)::r1):=hlr
   have hq:At s j ((c1,p1)::r1):=by rw [←hlr];exact Q1.out
   clear hlr
   generalize hrl:relV c1=rv at hrv
   have HRV:Hid (relV c1=rv):=hrl
   clear hrl
   refine (relOf_any _ _ b2 b3).mono ?_
   rw [relO_of hr,HRV.out]
   rintro e w2 ⟨rfl,rfl⟩
   go_wp2_with fail
   refine (pass_any s R j nv sv c1 p1 r1 _ ((q2.alloc _).drewN _) hs hq).mono ?_
   rintro e w2 ⟨rfl,j2,u1,u2,u3⟩
   obtain ⟨f2,g2,s2⟩:=u3.at (B:=w.heap.size) (by simp;omega) hne
   obtain ⟨f3,g3,s3⟩:=u3.at (B:=w1.heap.size) (by simp) hne1
   clear hq
   go_wp2_with fail
   refine (readTerm_any s R j2 nv sv r1 _ u2 hs u1).mono ?_
   rintro e w3 ⟨d0,d1,d2,b4,rfl,hv2,j3,t1,t2,t3⟩
   obtain ⟨f4,g4,s4⟩:=t3.at (B:=w.heap.size) s2 hne
   obtain ⟨f5,g5,s5⟩:=t3.at (B:=w1.heap.size) s3 hne1
   have hl3:=t2.lt
   have hne3:¬w3.heap.size=R:=by omega
   clear u1
   cases b4 with
   | false =>
    go_wp2
    refine bodyPost_ret (by simp [results,Tryz.results131,go_sem,f1,f2,f4,s1,s2,s4,World.cell?_alloc_past];rfl) rfl ?_
    go_light
    rw [pTest_rel (by rw [HT.out,HLR.out]) hr,pair_eq hv2]
    refine ⟨tst0,false,rfl,rfl,j3,t1,?_,?_⟩
    ·exact (t2.set11 hne _ _ _ _ _ _ _ _ _ _ _).alloc _
    ·exact ((((((((Kp.refl (fun k=>k=R) w).alloc _).trans q3).alloc _).drewN _).trans u3).trans t3).set11 (Or.inl (Nat.le_refl _)) _ _ _ _ _ _ _ _ _ _ _).alloc _
   | true =>
    have HT2:Hid (pTerm r1=(some ⟨d0,d1,d2⟩,(pTerm r1).2)):=by show pTerm r1=_;exact pair_eq hv2
    clear hv2
    generalize hx3:(pTerm r1).2=x3 at t1 HT2
    have T1:Hid (At s j3 x3):=t1
    clear t1 hx3
    obtain ⟨b5,b6⟩:=T1.out.hd_bounds
    generalize hc3:hd x3=c3 at b5 b6
    have HC3:Hid (hd x3=c3):=hc3
    clear hc3
    have L0:w3.cell? ⟨w1.heap.size,0,none⟩=some (.int .i64 a0):=by rw [f5,f3];simp [go_sem]
    have L1:w3.cell? ⟨w1.heap.size,1,none⟩=some (.int .i64 a1):=by rw [f5,f3];simp [go_sem]
    have L2:w3.cell? ⟨w1.heap.size,2,none⟩=some (.int .i64 a2):=by rw [f5,f3];simp [go_sem]
    have s6:w1.heap.size<w3.heap.size+1:=by omega
    go_wp2
    generalize hA2:arithV c3=av
    have HAV:Hid (arithV c3=av):=hA2
    clear hA2
    have hneT:¬w3.heap.size+1=R:=by omega
    go_cut [8] (fun t wr=>t=.pointer (some ⟨w3.heap.size+1,0,none⟩)∧(wr.cell? ⟨w3.heap.size+1,0,none⟩=some (.int .i64 a0)∧wr.cell? ⟨w3.heap.size+1,1,none⟩=some (.int .i64 a1)∧wr.cell? ⟨w3.heap.size+1,2,none⟩=some (.int .i64 a2)∧wr.cell? ⟨w3.heap.size+1,3,none⟩=some (.int .i64 rv)∧wr.cell? ⟨w3.heap.size+1,4,none⟩=some (.int .i64 d0)∧wr.cell? ⟨w3.heap.size+1,5,none⟩=some (.int .i64 d1)∧wr.cell? ⟨w3.heap.size+1,6,none⟩=some (.int .i64 d2)∧wr.cell? ⟨w3.heap.size+1,7,none⟩=some (.int .i64 av)∧wr.cell? ⟨w3.heap.size+1,8,none⟩=some (.int .i64 0)∧wr.cell? ⟨w3.heap.size+1,9,none⟩=some (.int .i64 0)∧wr.cell? ⟨w3.heap.size+1,10,none⟩=some (.int .i64 0))∧(∀o,wr.frozen? ⟨w3.heap.size+1,o,none⟩=false)∧Rd wr R s j3 nv sv∧Kp (fun k=>k=R) w3 wr∧w3.heap.size+1<wr.heap.size)
    case first =>
     go_region_held3 (fun w'=>w'.cell? ⟨w1.heap.size,0,none⟩=some (.int .i64 a0)∧w'.cell? ⟨w1.heap.size,1,none⟩=some (.int .i64 a1)∧w'.cell? ⟨w1.heap.size,2,none⟩=some (.int .i64 a2)∧w'.cell? ⟨w3.heap.size,0,none⟩=some (.int .i64 d0)∧w'.cell? ⟨w3.heap.size,1,none⟩=some (.int .i64 d1)∧w'.cell? ⟨w3.heap.size,2,none⟩=some (.int .i64 d2)) (simp [go_sem,L0,L1,L2,s5,s6,World.cell?_alloc_past])
      (first
       | (go_at_call 61;refine (peek_at (s:=s) (i:=j3) (nv:=nv) (sv:=sv) (l:=x3) ?_ hs T1.out).mono ?_;(first|exact (t2.alloc _).drewN _|exact (t2.alloc _)|exact ((t2.alloc _).alloc _)|exact ((t2.alloc _).alloc _).drewN _|exact ((t2.alloc _).drewN 1));rw [HC3.out];rintro e wx ⟨rfl,n3,rfl⟩)
       | (go_at_call 134;refine (arithOf_any _ _ b5 b6).mono ?_;rw [HAV.out];rintro e wx ⟨rfl,rfl⟩))
     ·go_wp2_with fail
      go_meet
      go_light
      exact ⟨rfl,by simp [go_sem],by intro o;simp [go_sem],((t2.alloc _).drewN _).alloc _,(((Kp.refl _ _).alloc _).drewN _).alloc _,by simp⟩
     ·go_wp2_with fail
      go_meet
      go_light
      exact ⟨rfl,by simp [go_sem],by intro o;simp [go_sem],((t2.alloc _).drewN _).alloc _,(((Kp.refl _ _).alloc _).drewN _).alloc _,by simp⟩
     ·go_wp2_with fail
      go_meet
      go_light
      refine ⟨rfl,?_,?_,?_,?_,?_⟩
      ·simp [go_sem]
      ·intro o;simp [go_sem]
      ·exact (((t2.alloc _).alloc _).drewN _).set11 hneT _ _ _ _ _ _ _ _ _ _ _
      ·exact ((((Kp.refl _ _).alloc _).alloc _).drewN _).set11 (Or.inl (by omega)) _ _ _ _ _ _ _ _ _ _ _
      ·simp [World.setCell]
    case rest =>
     obtain ⟨rfl,⟨k0,k1,k2,k3,k4,k5,k6,k7,k8,k9,k10⟩,kz,kR,kK,ks⟩:=hcut
     have fB:∀o,wc.cell? ⟨w.heap.size,o,none⟩=(w.alloc (.cells #[.int .i64 0,.int .i64 0,.int .i64 0,.int .i64 0,.int .i64 0,.int .i64 0,.int .i64 0,.int .i64 0,.int .i64 0,.int .i64 0,.int .i64 0] 118)).cell? ⟨w.heap.size,o,none⟩:=by
      intro o;rw [(kK.at s4 hne).1,f4,f2];simp [go_sem,s1,f1]
     have gB:∀o,wc.frozen? ⟨w.heap.size,o,none⟩=false:=by
      intro o;rw [(kK.at s4 hne).2.1,g4,g2];simp [go_sem,s1,g1]
     have sB:w.heap.size<wc.heap.size:=(kK.at s4 hne).2.2
     have hBT:¬w3.heap.size+1=w.heap.size:=by omega
     have hBT':¬w.heap.size=w3.heap.size+1:=by omega
     have KK:Hid (Kp (fun k=>k=R) w wc):=((((((Kp.refl (fun k=>k=R) w).alloc _).trans q3).alloc _).drewN _).trans u3).trans t3 |>.trans kK
     clear L0 L1 L2 f1 f2 f3 f4 f5 g1 g2 g3 g4 g5 q3 u3 t3 kK q2 u2 t2 h
     rcases Bool.eq_false_or_eq_true (isArithB c3) with hA|hA
     ·have hap:42≤c3:=by have:=(isArith_iff c3).1 hA;omega
      have havb:1≤av∧av≤3:=by
       rw [←HAV.out]
       rcases (isArith_iff c3).1 hA with h|h|h <;> subst h <;> simp [arithV]
      have hav0:(av == 0)=false:=by simp;omega
      obtain ⟨p3,r3,hlr3⟩:=hd_cons_of HC3.out (by omega)
      have HLR3:Hid (x3=(c3,p3)::r3):=hlr3
      have HQ3:Hid (At s j3 ((c3,p3)::r3)):=by show At s j3 _;rw [←hlr3];exact T1.out
      clear hlr3
      go_wp2_with fail
      refine (pass_any s R j3 nv sv c3 p3 r3 _ kR hs HQ3.out).mono ?_
      rintro e w4 ⟨rfl,j4,y1,y2,y3⟩
      obtain ⟨f6,g6,s7⟩:=y3.at (B:=w.heap.size) sB hne
      obtain ⟨f7,g7,s8⟩:=y3.at (B:=w3.heap.size+1) ks hneT
      go_wp2_with fail
      refine (readTerm_any s R j4 nv sv r3 _ y2 hs y1).mono ?_
      rintro e w5 ⟨m0,m1,m2,b7,rfl,hv3,j5,z1,z2,z3⟩
      obtain ⟨f8,g8,s9⟩:=z3.at (B:=w.heap.size) s7 hne
      obtain ⟨f9,g9,s10⟩:=z3.at (B:=w3.heap.size+1) s8 hneT
      have l0:w5.cell? ⟨w3.heap.size+1,0,none⟩=some (.int .i64 a0):=by rw [f9,f7];exact k0
      have l1:w5.cell? ⟨w3.heap.size+1,1,none⟩=some (.int .i64 a1):=by rw [f9,f7];exact k1
      have l2:w5.cell? ⟨w3.heap.size+1,2,none⟩=some (.int .i64 a2):=by rw [f9,f7];exact k2
      have l3:w5.cell? ⟨w3.heap.size+1,3,none⟩=some (.int .i64 rv):=by rw [f9,f7];exact k3
      have l4:w5.cell? ⟨w3.heap.size+1,4,none⟩=some (.int .i64 d0):=by rw [f9,f7];exact k4
      have l5:w5.cell? ⟨w3.heap.size+1,5,none⟩=some (.int .i64 d1):=by rw [f9,f7];exact k5
      have l6:w5.cell? ⟨w3.heap.size+1,6,none⟩=some (.int .i64 d2):=by rw [f9,f7];exact k6
      have l7:w5.cell? ⟨w3.heap.size+1,7,none⟩=some (.int .i64 av):=by rw [f9,f7];exact k7
      have l8:w5.cell? ⟨w3.heap.size+1,8,none⟩=some (.int .i64 0):=by rw [f9,f7];exact k8
      have l9:w5.cell? ⟨w3.heap.size+1,9,none⟩=some (.int .i64 0):=by rw [f9,f7];exact k9
      have l10:w5.cell? ⟨w3.heap.size+1,10,none⟩=some (.int .i64 0):=by rw [f9,f7];exact k10
      have lz:∀o,w5.frozen? ⟨w3.heap.size+1,o,none⟩=false:=by intro o;rw [g9,g7];exact kz o
      have fB5:∀o,w5.cell? ⟨w.heap.size,o,none⟩=(w.alloc (.cells #[.int .i64 0,.int .i64 0,.int .i64 0,.int .i64 0,.int .i64 0,.int .i64 0,.int .i64 0,.int .i64 0,.int .i64 0,.int .i64 0,.int .i64 0] 118)).cell? ⟨w.heap.size,o,none⟩:=by intro o;rw [f8,f6];exact fB o
      have gB5:∀o,w5.frozen? ⟨w.heap.size,o,none⟩=false:=by intro o;rw [g8,g6];exact gB o
      have K5:Hid (Kp (fun k=>k=R) w w5):=(KK.out.trans y3).trans z3
      have e1:¬w5.heap.size=w3.heap.size+1:=by omega
      have e2:¬w5.heap.size=w.heap.size:=by omega
      clear y1 f6 f7 f8 f9 g6 g7 g8 g9 fB gB k0 k1 k2 k3 k4 k5 k6 k7 k8 k9 k10 kz y2 y3 z3 kR KK
      go_wp2
      refine bodyPost_ret (by simp [results,Tryz.results131,go_sem,fB5,s9,s10,hBT,hBT',e1,e2];rfl) rfl ?_
      go_light
      rw [pTest_rel (by rw [HT.out,HLR.out]) hr,HT2.out]
      simp only
      rw [HLR3.out,pTail_ar hA,pair_eq hv3]
      refine ⟨⟨⟨a0,a1,a2⟩,rv,⟨d0,d1,d2⟩,av,⟨m0,m1,m2⟩⟩,b7,rfl,?_,j5,?_,?_,?_⟩
      ·cases b7
       ·rfl
       ·simp only [HRV.out,HAV.out];rfl
      ·cases b7 <;> exact z1
      ·exact ((((z2.other hneT _).other hneT _).other hneT _).set11 hne _ _ _ _ _ _ _ _ _ _ _).alloc _
      ·exact ((((K5.out.setCell (p:=⟨w3.heap.size+1,8,none⟩) (Or.inl (by show w.heap.size≤w3.heap.size+1;omega)) _).setCell (p:=⟨w3.heap.size+1,9,none⟩) (Or.inl (by show w.heap.size≤w3.heap.size+1;omega)) _).setCell (p:=⟨w3.heap.size+1,10,none⟩) (Or.inl (by show w.heap.size≤w3.heap.size+1;omega)) _).set11 (Or.inl (Nat.le_refl _)) _ _ _ _ _ _ _ _ _ _ _).alloc _
     ·have hav:av=0:=by
       rw [←HAV.out]
       have:¬(c3=43∨c3=45∨c3=42):=by rw [←isArith_iff,hA];simp
       have h1:¬c3=43:=fun e=>this (Or.inl e)
       have h2:¬c3=45:=fun e=>this (Or.inr (Or.inl e))
       have h3:¬c3=42:=fun e=>this (Or.inr (Or.inr e))
       simp [arithV,h1,h2,h3]
      subst hav
      go_wp2
      refine bodyPost_ret (by simp [results,Tryz.results131,go_sem,fB,sB,hBT,hBT'];rfl) rfl ?_
      go_light
      rw [pTest_rel (by rw [HT.out,HLR.out]) hr,HT2.out]
      refine ⟨⟨⟨a0,a1,a2⟩,rv,⟨d0,d1,d2⟩,0,tm0⟩,true,rfl,?_,j3,?_,?_,?_⟩
      ·simp only
       rw [pTail_not (by rw [HC3.out];exact hA),HRV.out];rfl
      ·simp only
       rw [pTail_not (by rw [HC3.out];exact hA)];exact T1.out
      ·exact kR.set11 hne _ _ _ _ _ _ _ _ _ _ _
      ·exact KK.out.set11 (Or.inl (Nat.le_refl _)) _ _ _ _ _ _ _ _ _ _ _
  ·refine (relOf_any _ _ b2 b3).mono ?_
   rw [relO_not hr]
   rintro e w2 ⟨rfl,rfl⟩
   go_wp2
   refine bodyPost_ret (by simp [results,Tryz.results131,go_sem,f1,s1,World.cell?_alloc_past];rfl) rfl ?_
   go_light
   rw [pTest_norel HT.out (by rw [HC1.out];exact hr)]
   refine ⟨tst0,false,rfl,rfl,j,Q1.out,?_,?_⟩
   ·exact (((q2.alloc _).drewN _).set11 hne _ _ _ _ _ _ _ _ _ _ _)
   ·exact (((((Kp.refl (fun k=>k=R) w).alloc _).trans q3).alloc _).drewN _).set11 (Or.inl (Nat.le_refl _)) _ _ _ _ _ _ _ _ _ _ _
theorem ownsRow_kp {w w1:World} {R base size n:Nat} {e:TypeId} {v:Value} {xs:List Value} (h:w.ownsRow base e size v n xs) (hk:Kp (fun k=>k=R) w w1) (hR:R<base):w1.ownsRow base e size v n xs:=by
 refine ⟨h.1,?_⟩
 rcases h.2 with hn|⟨g,cap,cur,rfl,hb,hg,rest⟩
 ·exact .inl hn
 ·refine .inr ⟨g,cap,cur,rfl,hb,?_,rest⟩
  rw [hk.block g (Array.getElem?_eq_some_iff.1 hg).1 (by show ¬g=R;omega)]
  exact hg
theorem ownsRow_drewN {w:World} {base size n:Nat} {e:TypeId} {v:Value} {xs:List Value} (h:w.ownsRow base e size v n xs) (m:Nat):(w.drewN m).ownsRow base e size v n xs:=h
def tstC (t:Tst):List Value:=[.int .i64 t.left.of,.int .i64 t.left.field,.int .i64 t.left.num,.int .i64 t.rel,.int .i64 t.right.of,.int .i64 t.right.field,.int .i64 t.right.num,.int .i64 t.arith,.int .i64 t.more.of,.int .i64 t.more.field,.int .i64 t.more.num]
def tstsC (l:List Tst):List Value:=(l.map tstC).flatten
def finT (n:Nat) (ts:List Tst):List Tok→Option (List Tst)×List Tok
 | []=>(none,[])
 | (c,p)::r =>
  if c=38 then
   (match pTests n r with
   | (none,x)=>(none,x)
   | (some us,x)=>(some (ts++us),x))
  else if c=93 then (some ts,r) else (none,(c,p)::r)
theorem pTests_first {n:Nat} {r:List Tok} {t:Tst} {y:List Tok} (h:pTest r=(some t,y)):pTests (n+1) r=finT n [t] y:=by
 match y,h with
 | [],h=>simp [pTests,h,finT]
 | (c,p)::q,h=>simp only [pTests,h,finT];rfl
theorem pTests_fail {n:Nat} {r y:List Tok} (h:pTest r=(none,y)):pTests (n+1) r=(none,y):=by simp [pTests,h]
theorem finT_more {n:Nat} {ts:List Tst} {r y:List Tok} {p:Nat} {t:Tst} (h:pTest r=(some t,y)):finT (n+1) ts ((38,p)::r)=finT n (ts++[t]) y:=by
 simp only [finT,if_pos rfl,pTests_first h]
 match y with
 | []=>rfl
 | (c,q)::z =>
  simp only [finT]
  by_cases hc:c=38
  ·simp only [if_pos hc]
   generalize pTests n z=u
   obtain ⟨u1,u2⟩:=u
   cases u1 with
   | none=>rfl
   | some us=>simp [List.append_assoc]
  ·simp only [if_neg hc]
   by_cases h93:c=93
   ·simp [h93]
   ·simp [h93]
theorem finT_fail {n:Nat} {ts:List Tst} {r y:List Tok} {p:Nat} (h:pTest r=(none,y)):finT (n+1) ts ((38,p)::r)=(none,y):=by
 simp [finT,pTests_fail h]
theorem finT_end {n:Nat} {ts:List Tst} {r:List Tok} {p:Nat}:finT n ts ((93,p)::r)=(some ts,r):=by simp [finT]
theorem finT_not {n:Nat} {ts:List Tst} {y:List Tok} (h38:¬hd y=38) (h93:¬hd y=93):finT n ts y=(none,y):=by
 match y,h38,h93 with
 | [],_,_=>rfl
 | (c,p)::r,h38,h93=>simp only [hd] at h38 h93;simp [finT,h38,h93]
theorem news_two (w2:World) (o:Obj) (cs:Array Value) (t:TypeId):∀j u,cs.toList[j]? = some u→((w2.alloc o).alloc (.cells cs t)).cell? ((⟨w2.heap.size+1,0,none⟩:Addr).add j)=some u :=
 World.news_of_block (by have:=heap_alloc_new (w2.alloc o) (.cells cs t);simpa using this)
theorem oneCells (t:Tst):∀u∈tstC t,u.oneCell'=true:=by
 intro u hu
 simp only [tstC,List.mem_cons,List.not_mem_nil,or_false] at hu
 rcases hu with h|h|h|h|h|h|h|h|h|h|h <;> subst h <;> rfl
theorem Rd.grown {w w':World} {R:Nat} {s:ByteArray} {i:Nat} {nv sv:Value} {row:Option Nat} (h:Rd w R s i nv sv) (hg:w.grownBy w' row) (hr:¬some R=row):Rd w' R s i nv sv:=by
 have hl:=h.lt
 have hb:=hg.block R hl hr
 obtain ⟨c0,c1,c2,c3,z1,z2,z3⟩:=h
 constructor
 all_goals first|(rw [World.cell?_of_block (w:=w) hb];assumption)|(rw [World.frozen?_of_block (w:=w) hb];assumption)
theorem pTest_le (l:List Tok):(pTest l).2.length≤l.length:=(pTest_goes l ⟨8,0,0,0,0⟩ rfl rfl).le
theorem toks_length:∀(b:List Int) (i:Nat),(toks i b).length≤b.length:=by
 intro b
 induction b with
 | nil=>intro i;simp [toks]
 | cons c r ih =>
  intro i
  have:=ih (i+1)
  simp only [toks]
  by_cases h:c=32
  ·simp only [if_pos h,List.length_cons];omega
  ·simp only [if_neg h,List.length_cons];omega
theorem At.length {s:ByteArray} {i:Nat} {l:List Tok} (h:At s i l):l.length≤s.size:=by
 rw [h.2.1]
 refine Nat.le_trans (toks_length _ _) ?_
 rw [List.length_drop,bI_length]
 omega
theorem Tryz.info118:(Tryz.prog.info? 118).map (fun i=>(i.zero,i.size,i.bytes))=some (some (.agg #[.int .i64 0,.int .i64 0,.int .i64 0,.int .i64 0,.int .i64 0,.int .i64 0,.int .i64 0,.int .i64 0,.int .i64 0,.int .i64 0,.int .i64 0]),11,88):=by kernel_rfl
def TestsPost (s:ByteArray) (R:Nat) (nv sv:Value) (w:World) (r:Option (List Tst)×List Tok) (e:Ending) (w':World):Prop :=
 RdPost s R nv sv w r.2 w'∧(r.1=none→e=.returned (.tuple #[.slice none 0 0,.bool false])) ∧
 (∀ts,r.1=some ts→∃v,e=.returned (.tuple #[v,.bool true])∧w'.ownsRow w.heap.size 118 11 v ts.length (tstsC ts))
theorem readTests_any (s:ByteArray) (R i:Nat) (nv sv:Value) (p:Nat) (l:List Tok) (w:World) (h:Rd w R s i nv sv) (hs:s.size≤1000) (ha:At s i ((91,p)::l)) :
  Calls Tryz.prog 130 #[.pointer (some ⟨R,0,none⟩)] w (TestsPost s R nv sv w (pTests (l.length+1) l)):=by
 have hm:s.size≤maxLen:=by unfold maxLen;omega
 have hl:=h.lt
 obtain ⟨i0,hi,hz0,hz1,hz2⟩:=info_parts Tryz.info118
 have hlen:=ha.length
 go_enter Tryz.func130,Tryz.ntmps130
 go_wp2
 go_loopg [4] (l.length+1) (fun g v wr=>∃(ts:List Tst) (y:List Tok) (j:Nat),g=y.length∧wr.ownsRow w.heap.size 118 11 v ts.length (tstsC ts)∧ts.length+y.length≤l.length+1∧At s j y∧Rd wr R s j nv sv∧Kp (fun k=>k=R) w wr∧(ts=[]→v=.slice none 0 0) ∧
   ((ts=[]∧y=(91,p)::l)∨(¬ts=[]∧∃n,y.length≤n∧pTests (l.length+1) l=finT n ts y)))
 case atStart=>exact ⟨[],(91,p)::l,i,by simp,World.ownsRow_nil _ _ _ _,by simp,ha,h,Kp.refl _ _,fun _=>rfl,Or.inl ⟨rfl,rfl⟩⟩
 case round =>
  obtain ⟨ts,y,j,hg,hown,hcount,q1,q2,q3,hnil,hcase⟩:=hrel
  have HG:Hid (gk=y.length):=hg
  have Q1:Hid (At s j y):=q1
  clear hg q1 ha h
  rcases hcase with ⟨ht,hy⟩ | ⟨ht,n,hn,hp⟩
  ·have hv:=hnil ht
   subst ht
   subst hy
   subst hv
   clear hnil
   go_wp2_with fail
   refine (pass_any s R j nv sv 91 p l _ q2 hm Q1.out).mono ?_
   rintro e w1 ⟨rfl,j1,u1,u2,u3⟩
   go_wp2_with fail
   refine (readTest_any s R j1 nv sv l _ u2 hm u1).mono ?_
   rintro e w2 ⟨⟨⟨a0,a1,a2⟩,a3,⟨a4,a5,a6⟩,a7,⟨a8,a9,a10⟩⟩,b,rfl,hv,j2,y1,y2,y3⟩
   have HO:Hid (w2.ownsRow w.heap.size 118 11 (.slice none 0 0) 0 []):=World.ownsRow_nil _ _ _ _
   have HK:Hid (Kp (fun k=>k=R) w w2):=(q3.trans u3).trans y3
   have HV:Hid ((pTest l).1=if b=true then some ⟨⟨a0,a1,a2⟩,a3,⟨a4,a5,a6⟩,a7,⟨a8,a9,a10⟩⟩ else none):=hv
   have Y1:Hid (At s j2 (pTest l).2):=y1
   clear hown q3 u3 y3 hv y1 u1 u2 q2
   unfold tstV
   cases b with
   | false =>
    go_wp2
    go_ret2
    rw [pTests_fail (pair_eq HV.out)]
    exact ⟨⟨j2,Y1.out,y2.alloc _,HK.out.alloc _⟩,fun _=>rfl,fun ts hts=>by cases hts⟩
   | true =>
    go_wp2_with (at_builtin;refine wpList_append_lies _ rfl _ _ 98 rfl w.heap.size 118 i0 (.agg #[.int .i64 0,.int .i64 0,.int .i64 0,.int .i64 0,.int .i64 0,.int .i64 0,.int .i64 0,.int .i64 0,.int .i64 0,.int .i64 0,.int .i64 0]) 11 88 Tryz.underlying98 hi hz0 hz1 hz2 rfl (by decide) _ _ _ rfl ((HO.out.alloc _).alloc _) ⟨w2.heap.size+1,0,none⟩ 1 1 [.int .i64 a0,.int .i64 a1,.int .i64 a2,.int .i64 a3,.int .i64 a4,.int .i64 a5,.int .i64 a6,.int .i64 a7,.int .i64 a8,.int .i64 a9,.int .i64 a10] rfl rfl ?c1 ?c2 (by decide) ?c3 ?c4 ?c5 _ rfl ?_)
    case c1=>exact news_two w2 _ _ _
    case c2=>exact oneCells ⟨⟨a0,a1,a2⟩,a3,⟨a4,a5,a6⟩,a7,⟨a8,a9,a10⟩⟩
    case c3=>unfold maxLen;omega
    case c4=>omega
    case c5=>have:=HK.out.size;simp;omega
    ·intro g cap w3 hown3 hgrow hat hlt
     have HW:Hid (w3.ownsRow w.heap.size 118 11 (.slice (some ⟨g,0,none⟩) 1 cap) 1 (tstsC [⟨⟨a0,a1,a2⟩,a3,⟨a4,a5,a6⟩,a7,⟨a8,a9,a10⟩⟩])):=hown3
     have R3:Hid (Rd w3 R s j2 nv sv):=Rd.grown ((y2.alloc _).alloc _) hgrow (by simp [Value.ownBlock])
     have K3:Hid (Kp (fun k=>k=R) w w3):=((HK.out.alloc _).alloc _).grown hgrow (by intro k hk;simp [Value.ownBlock] at hk)
     clear hown3 hgrow hat HO HK y2
     have hle:=pTest_le l
     go_wp2
     go_roundg (pTest l).2.length
     case measure=>rw [HG.out];simp;omega
     case rel =>
      refine ⟨[⟨⟨a0,a1,a2⟩,a3,⟨a4,a5,a6⟩,a7,⟨a8,a9,a10⟩⟩],(pTest l).2,j2,rfl,HW.out,by simp;omega,Y1.out,R3.out,K3.out,(by intro h;cases h),Or.inr ⟨by simp,l.length,hle,?_⟩⟩
      exact pTests_first (pair_eq HV.out)
  ·have hlen0:¬ts.length=0:=by intro e;exact ht (List.eq_nil_of_length_eq_zero e)
   have hz:((ts.length:Int) == 0)=false:=by simp;exact ht
   clear hnil
   have hex:∃g cap,u4=.slice (some ⟨g,0,none⟩) ts.length cap∧w.heap.size≤g:=by
    rcases hown.2 with ⟨_,h0⟩ | ⟨g,cap,cur,hv,hb,_⟩
    ·exact absurd h0 hlen0
    ·exact ⟨g,cap,hv,hb⟩
   obtain ⟨g0,cap0,hv0,hg0⟩:=hex
   subst hv0
   have hgR:¬R=g0:=by omega
   have HP:Hid (pTests (l.length+1) l=finT n ts y):=hp
   have HT:Hid (¬ts=[]):=ht
   clear hp ht
   obtain ⟨b0,b1⟩:=Q1.out.hd_bounds
   generalize hc:hd y=c at b0 b1
   have HC:Hid (hd y=c):=hc
   clear hc
   by_cases h38:c=38
   ·obtain ⟨p2,r2,hlr⟩:=hd_cons_of HC.out (by omega)
    subst h38
    have HY:Hid (y=(38,p2)::r2):=hlr
    have hq:At s j ((38,p2)::r2):=by rw [←hlr];exact Q1.out
    have hcr:ts.length+r2.length+1≤l.length+1:=by rw [hlr] at hcount;simp at hcount;omega
    have hn2:∃m,n=m+1∧r2.length≤m:=by rw [hlr] at hn;simp at hn;exact ⟨n - 1,by omega,by omega⟩
    obtain ⟨m,hnm,hrm⟩:=hn2
    have HN:Hid (n=m+1):=hnm
    clear hlr hn hnm
    have hle:=pTest_le r2
    simp only [List.length_cons] at hlen
    go_wp2_with fail
    refine (peek_at q2 hm Q1.out).mono ?_
    rw [HC.out]
    rintro e wx ⟨rfl,n1,rfl⟩
    go_wp2_with fail
    refine (pass_any s R j nv sv 38 p2 r2 _ (q2.drewN _) hm hq).mono ?_
    rintro e w1 ⟨rfl,j1,u1,u2,u3⟩
    go_wp2_with fail
    refine (readTest_any s R j1 nv sv r2 _ u2 hm u1).mono ?_
    rintro e w2 ⟨⟨⟨a0,a1,a2⟩,a3,⟨a4,a5,a6⟩,a7,⟨a8,a9,a10⟩⟩,b,rfl,hv,j2,y1,y2,y3⟩
    have HO:Hid (w2.ownsRow w.heap.size 118 11 (.slice (some ⟨g0,0,none⟩) ts.length cap0) ts.length (tstsC ts)):=ownsRow_kp (ownsRow_kp (ownsRow_drewN hown _) u3 hl) y3 hl
    have HK:Hid (Kp (fun k=>k=R) w w2):=((q3.drewN _).trans u3).trans y3
    have HV:Hid ((pTest r2).1=if b=true then some ⟨⟨a0,a1,a2⟩,a3,⟨a4,a5,a6⟩,a7,⟨a8,a9,a10⟩⟩ else none):=hv
    have Y1:Hid (At s j2 (pTest r2).2):=y1
    clear hown q3 u3 y3 hv y1 u1 u2 q2 hq
    unfold tstV
    cases b with
    | false =>
     go_wp2
     go_ret2
     rw [HP.out,HN.out,HY.out,finT_fail (pair_eq HV.out)]
     exact ⟨⟨j2,Y1.out,y2.alloc _,HK.out.alloc _⟩,fun _=>rfl,fun ts hts=>by cases hts⟩
    | true =>
     go_wp2_with (at_builtin;refine wpList_append_lies _ rfl _ _ 98 rfl w.heap.size 118 i0 (.agg #[.int .i64 0,.int .i64 0,.int .i64 0,.int .i64 0,.int .i64 0,.int .i64 0,.int .i64 0,.int .i64 0,.int .i64 0,.int .i64 0,.int .i64 0]) 11 88 Tryz.underlying98 hi hz0 hz1 hz2 rfl (by decide) _ _ _ rfl ((HO.out.alloc _).alloc _) ⟨w2.heap.size+1,0,none⟩ 1 1 [.int .i64 a0,.int .i64 a1,.int .i64 a2,.int .i64 a3,.int .i64 a4,.int .i64 a5,.int .i64 a6,.int .i64 a7,.int .i64 a8,.int .i64 a9,.int .i64 a10] rfl rfl ?c1 ?c2 (by decide) ?c3 ?c4 ?c5 _ rfl ?_)
     case c1=>exact news_two w2 _ _ _
     case c2=>exact oneCells ⟨⟨a0,a1,a2⟩,a3,⟨a4,a5,a6⟩,a7,⟨a8,a9,a10⟩⟩
     case c3=>unfold maxLen;omega
     case c4=>omega
     case c5=>have:=HK.out.size;simp;omega
     ·intro g cap w3 hown3 hgrow hat hlt
      have HW:Hid (w3.ownsRow w.heap.size 118 11 (.slice (some ⟨g,0,none⟩) (ts.length+1) cap) (ts++[(⟨⟨a0,a1,a2⟩,a3,⟨a4,a5,a6⟩,a7,⟨a8,a9,a10⟩⟩:Tst)]).length (tstsC (ts++[(⟨⟨a0,a1,a2⟩,a3,⟨a4,a5,a6⟩,a7,⟨a8,a9,a10⟩⟩:Tst)]))):=by
       have e1:(ts++[(⟨⟨a0,a1,a2⟩,a3,⟨a4,a5,a6⟩,a7,⟨a8,a9,a10⟩⟩:Tst)]).length=ts.length+1:=by simp
       have e2:tstsC (ts++[(⟨⟨a0,a1,a2⟩,a3,⟨a4,a5,a6⟩,a7,⟨a8,a9,a10⟩⟩:Tst)])=tstsC ts++tstC ⟨⟨a0,a1,a2⟩,a3,⟨a4,a5,a6⟩,a7,⟨a8,a9,a10⟩⟩:=by simp [tstsC]
       show w3.ownsRow _ _ _ _ _ _
       rw [e1,e2]
       exact hown3
      have R3:Hid (Rd w3 R s j2 nv sv):=Rd.grown ((y2.alloc _).alloc _) hgrow (by simp only [Value.ownBlock];intro e;exact hgR (Option.some.inj e))
      have K3:Hid (Kp (fun k=>k=R) w w3):=((HK.out.alloc _).alloc _).grown hgrow (by intro k hk;simp only [Value.ownBlock] at hk;exact Or.inl (by have:=Option.some.inj hk;omega))
      clear hown3 hgrow hat HO HK y2
      go_wp2
      go_roundg (pTest r2).2.length
      case measure=>rw [HG.out,HY.out];simp;omega
      case rel =>
       refine ⟨ts++[⟨⟨a0,a1,a2⟩,a3,⟨a4,a5,a6⟩,a7,⟨a8,a9,a10⟩⟩],(pTest r2).2,j2,rfl,HW.out,by simp;omega,Y1.out,R3.out,K3.out,(by intro h;simp at h),Or.inr ⟨by simp,m,by omega,?_⟩⟩
       rw [HP.out,HN.out,HY.out]
       exact finT_more (pair_eq HV.out)
   ·have h38':(c == 38)=false:=by simp [h38]
    go_wp2_with fail
    refine (peek_at q2 hm Q1.out).mono ?_
    rw [HC.out]
    rintro e wx ⟨rfl,n1,rfl⟩
    by_cases h93:c=93
    ·obtain ⟨p2,r2,hlr⟩:=hd_cons_of HC.out (by omega)
     subst h93
     have HY:Hid (y=(93,p2)::r2):=hlr
     have hq:At s j ((93,p2)::r2):=by rw [←hlr];exact Q1.out
     clear hlr
     go_wp2_with fail
     refine (peek_at (s:=s) (i:=j) (nv:=nv) (sv:=sv) (l:=y) (q2.drewN _) hm Q1.out).mono ?_
     rw [HC.out]
     rintro e wx ⟨rfl,n2,rfl⟩
     go_wp2_with fail
     refine (pass_any s R j nv sv 93 p2 r2 _ (q2.drewN _) hm hq).mono ?_
     rintro e w1 ⟨rfl,j1,u1,u2,u3⟩
     go_wp2
     go_ret2
     rw [HP.out,HY.out,finT_end]
     refine ⟨⟨j1,u1,u2,?_⟩,(fun h=>by cases h),?_⟩
     ·exact (q3.drewN _).trans u3
     ·intro ts' hts
      cases hts
      exact ⟨_,rfl,ownsRow_kp (ownsRow_drewN hown _) u3 hl⟩
    ·have h93':(c == 93)=false:=by simp [h93]
     have h93'':(c != 93)=true:=by simp [h93]
     go_wp2_with fail
     refine (peek_at (s:=s) (i:=j) (nv:=nv) (sv:=sv) (l:=y) (q2.drewN _) hm Q1.out).mono ?_
     rw [HC.out]
     rintro e wx ⟨rfl,n2,rfl⟩
     go_wp2
     go_ret2
     rw [HP.out,finT_not (by rw [HC.out];exact h38) (by rw [HC.out];exact h93)]
     exact ⟨⟨j,Q1.out,q2.drewN _,q3.drewN _⟩,fun _=>rfl,fun ts hts=>by cases hts⟩
end Go.Proofs.YtcboiapggnmpfaaGreatDoor
