import Derived.Test.YtcboiapggnmpfaaGreatDoorQag
import Derived.Deep.RegionLaw
import Derived.Deep.DrawnRows
namespace Go.Proofs.YtcboiapggnmpfaaGreatDoor
set_option maxRecDepth 100000
set_option maxHeartbeats 1000000
set_option linter.unusedSimpArgs false
set_option linter.unusedVariables false
open Go.RowKit
structure Nd where
 op:Int
 step:Int
 left:Int
 right:Int
 low:Int
 high:Int
def ndC (n:Nd):List Value:=[.int .i64 n.op,.int .i64 n.step,.int .i64 n.left,.int .i64 n.right,.int .i64 n.low,.int .i64 n.high]
def ndsC (l:List Nd):List Value:=(l.map ndC).flatten
theorem Tryz.info186:(Tryz.prog.info? 186).map (fun i=>(i.zero,i.size,i.bytes))=some (some (.agg #[.int .i64 0,.int .i64 0,.int .i64 0,.int .i64 0,.int .i64 0,.int .i64 0]),6,48):=by kernel_rfl
theorem oneCellsN (t:Nd):∀u∈ndC t,u.oneCell'=true:=by
 intro u hu
 simp only [ndC,List.mem_cons,List.not_mem_nil,or_false] at hu
 rcases hu with h|h|h|h|h|h <;> subst h <;> rfl
theorem Rd.setN {w:World} {R:Nat} {s:ByteArray} {i:Nat} {nv sv:Value} (h:Rd w R s i nv sv) (v:Value):Rd (w.setCell ⟨R,2,none⟩ v) R s i v sv:=by
 obtain ⟨c0,c1,c2,c3,z1,z2,z3⟩:=h
 constructor <;> simp [go_sem,c0,c1,c2,c3,z1,z2,z3]
theorem Rd.drew {w:World} {R:Nat} {s:ByteArray} {i:Nat} {nv sv:Value} (h:Rd w R s i nv sv):Rd w.drew R s i nv sv :=
 ⟨h.c0,h.c1,h.c2,h.c3,h.z1,h.z2,h.z3⟩
theorem ret_len {k:IntKind} {a b:Int} (h:a=b):Ending.returned (.int k a)=.returned (.int k b):=by rw [h]
theorem addNode_any (s:ByteArray) (R i:Nat) (nv sv:Value) (N:List Nd) (n0 n1 n2 n3 n4 n5:Int) (w:World) (h:Rd w R s i nv sv) (hown:w.ownsRow (R+1) 186 6 nv N.length (ndsC N)) (hN:N.length≤100000) :
  Calls Tryz.prog 89 #[.pointer (some ⟨R,0,none⟩),.agg #[.int .i64 n0,.int .i64 n1,.int .i64 n2,.int .i64 n3,.int .i64 n4,.int .i64 n5]] w fun e w' =>
   e=.returned (.int .i64 N.length)∧∃nv',Rd w' R s i nv' sv∧w'.ownsRow (R+1) 186 6 nv' (N++[(⟨n0,n1,n2,n3,n4,n5⟩:Nd)]).length (ndsC (N++[(⟨n0,n1,n2,n3,n4,n5⟩:Nd)])) ∧
    Kp (fun k=>k=R∨nv.ownBlock=some k) w w'∧(nv'.ownBlock=nv.ownBlock∨∃g,nv'.ownBlock=some g∧w.heap.size≤g):=by
 have hl:=h.lt
 have hne:¬w.heap.size=R:=by omega
 have hne':¬R=w.heap.size:=by omega
 obtain ⟨i0,hi,hz0,hz1,hz2⟩:=info_parts Tryz.info186
 have H:Hid (Rd w R s i nv sv):=h
 obtain ⟨c0,c1,c2,c3,z1,z2,z3⟩:=h
 clear c0 c1 c3 z1 z3
 go_enter Tryz.func89,Tryz.ntmps89
 go_wp2
 have hb:=hown.lt
 have hR:¬some R=nv.ownBlock:=by intro e;have:=hb R e.symm;omega
 have hB:¬some w.heap.size=nv.ownBlock:=by intro e;have:=hb _ e.symm;omega
 have HB:Hid (∀k,nv.ownBlock=some k→R+1≤k∧k<w.heap.size):=hb
 clear hb
 go_region_law
  ((refine step_append_lies _ (by rfl) _ _ _ (by rfl) (R+1) 186 i0 (.agg #[.int .i64 0,.int .i64 0,.int .i64 0,.int .i64 0,.int .i64 0,.int .i64 0]) 6 48 Tryz.underlying67 hi hz0 hz1 hz2 rfl (by omega) nv N.length (ndsC N) (by rfl) (by exact (hown.alloc _).alloc _) ⟨w.heap.size+1,0,none⟩ 1 1 (ndC ⟨n0,n1,n2,n3,n4,n5⟩) (by rfl) (by rfl) (by exact news_two w _ _ _) (oneCellsN _) (by omega) (by unfold maxLen;omega) (by omega) (by simp;omega) (w.heap.size+2) (by simp) ?_;intro g cap w1 hown1 hgrow hat hlt;have kc:∀o,w1.cell? ⟨w.heap.size,o,none⟩=((w.alloc (.cells #[.int .i64 n0,.int .i64 n1,.int .i64 n2,.int .i64 n3,.int .i64 n4,.int .i64 n5] 186)).alloc (.cells #[.int .i64 n0,.int .i64 n1,.int .i64 n2,.int .i64 n3,.int .i64 n4,.int .i64 n5] 186)).cell? ⟨w.heap.size,o,none⟩:=(fun o=>hgrow.cell_far _ (by simp;omega) hB);have kR:∀o,w1.cell? ⟨R,o,none⟩=w.cell? ⟨R,o,none⟩:=(fun o=>(hgrow.cell_far _ (by simp;omega) hR).trans (by simp [go_sem,hl,World.cell?_alloc_past]));have kz:∀o,w1.frozen? ⟨R,o,none⟩=w.frozen? ⟨R,o,none⟩:=(fun o=>(hgrow.frozen_far _ (by simp;omega) hR).trans (by simp [go_sem,hl,World.frozen?_alloc_past]))))
 all_goals
  have R1:Hid (Rd w1 R s i nv sv):=Rd.grown ((H.out.alloc _).alloc _).drew hgrow hR
  have K1:Hid (Kp (fun k=>k=R∨nv.ownBlock=some k) w w1):=((((Kp.refl _ w).alloc _).alloc _).drew).grown hgrow (fun k hk=>Or.inr (Or.inr hk))
  have O1:Hid (w1.ownsRow (R+1) 186 6 (.slice (some ⟨g,0,none⟩) (N.length+1) cap) (N++[(⟨n0,n1,n2,n3,n4,n5⟩:Nd)]).length (ndsC (N++[(⟨n0,n1,n2,n3,n4,n5⟩:Nd)]))):=by
   have e1:(N++[(⟨n0,n1,n2,n3,n4,n5⟩:Nd)]).length=N.length+1:=by simp
   have e2:ndsC (N++[(⟨n0,n1,n2,n3,n4,n5⟩:Nd)])=ndsC N++ndC ⟨n0,n1,n2,n3,n4,n5⟩:=by simp [ndsC]
   show w1.ownsRow _ _ _ _ _ _
   rw [e1,e2]
   exact hown1
  have A1:Hid (nv.ownBlock=some g∨g=w.heap.size+2):=hat
  clear hown1 hgrow hat
  go_wp2
  go_ret
  refine ⟨ret_len (by omega),.slice (some ⟨g,0,none⟩) (N.length+1) cap,?_,?_,?_,?_⟩
  ·exact R1.out.setN _
  ·exact ownsRow_setCell_below O1.out (a:=⟨R,2,none⟩) (Nat.lt_succ_self R) _
  ·exact K1.out.setCell (p:=⟨R,2,none⟩) (Or.inr (Or.inl rfl)) _
  ·rcases A1.out with e|e
   ·exact Or.inl e.symm
   ·exact Or.inr ⟨g,rfl,by omega⟩
def NdPost (s:ByteArray) (R:Nat) (sv:Value) (w:World) (nv:Value) (N:List Nd) (x:List Tok) (w':World):Prop :=
 ∃(j:Nat) (nv':Value),At s j x∧Rd w' R s j nv' sv∧w'.ownsRow (R+1) 186 6 nv' N.length (ndsC N) ∧
  Kp (fun k=>k=R∨nv.ownBlock=some k) w w'∧(nv'.ownBlock=nv.ownBlock∨∃g,nv'.ownBlock=some g∧w.heap.size≤g)
theorem NdPost.before {s:ByteArray} {R:Nat} {nv sv:Value} {w w1 w':World} {x:List Tok} {N:List Nd} (hk:Kp (fun k=>k=R) w w1) (h:NdPost s R sv w1 nv N x w'):NdPost s R sv w nv N x w':=by
 obtain ⟨j,nv',h1,h2,h3,h4,h5⟩:=h
 refine ⟨j,nv',h1,h2,h3,(hk.mono (fun _ _ e=>Or.inl e)).trans h4,?_⟩
 rcases h5 with h5|⟨g,h5,h6⟩
 ·exact Or.inl h5
 ·exact Or.inr ⟨g,h5,Nat.le_trans hk.size h6⟩
theorem repeat_any (s:ByteArray) (R i:Nat) (nv sv:Value) (N:List Nd) (body low high c:Int) (p:Nat) (l:List Tok) (w:World) (h:Rd w R s i nv sv) (hown:w.ownsRow (R+1) 186 6 nv N.length (ndsC N)) (hN:N.length≤100000) (hm:s.size≤maxLen) (ha:At s i ((c,p)::l)) :
  Calls Tryz.prog 117 #[.pointer (some ⟨R,0,none⟩),.int .i64 body,.int .i64 low,.int .i64 high] w fun e w' =>
   e=.returned (.int .i64 N.length)∧NdPost s R sv w nv (N++[⟨3,0,body,0,low,high⟩]) l w':=by
 go_enter Tryz.func117,Tryz.ntmps117
 go_wp2_with fail
 refine (pass_any s R i nv sv c p l _ h hm ha).mono ?_
 rintro e w1 ⟨rfl,j1,u1,u2,u3⟩
 go_wp2_with fail
 refine (addNode_any s R j1 nv sv N 3 0 body 0 low high _ u2 (ownsRow_kp hown u3 (Nat.lt_succ_self R)) hN).mono ?_
 rintro e w2 ⟨rfl,nv',y1,y2,y3,y4⟩
 go_wp2
 go_ret
 exact ⟨rfl,NdPost.before u3 ⟨j1,nv',u1,y1,y2,y3,y4⟩⟩
theorem pLow_not {l:List Tok} (h:isDigitB (hd l)=false):pLow l=(none,l):=by
 match l,h with
 | [],_=>rfl
 | (c,p)::r,h=>simp only [hd] at h;simp [pLow,h]
theorem pLow_of {a:Int} {p:Nat} {r:List Tok} (h:isDigitB a=true):pLow ((a,p)::r)=pHigh (a - 48) r:=by simp [pLow,h]
theorem pHigh_not {a:Int} {l:List Tok} (h:digitO (hd l)<1∨digitO (hd l)<a):pHigh a l=(none,l):=by
 match l,h with
 | [],_=>rfl
 | (b,p)::r,h =>
  simp only [hd] at h
  simp only [pHigh]
  rw [if_neg]
  rintro ⟨h1,h2,h3⟩
  rw [digitO_of h1] at h
  omega
theorem pHigh_of {a b:Int} {p:Nat} {r:List Tok} (h1:1≤digitO b) (h2:a≤digitO b):isDigitB b=true∧pHigh a ((b,p)::r)=pClose a (b - 48) r:=by
 have hb:isDigitB b=true:=by
  cases e:isDigitB b with
  | true=>rfl
  | false=>rw [digitO_not e] at h1;omega
 refine ⟨hb,?_⟩
 rw [digitO_of hb] at h1 h2
 simp only [pHigh]
 rw [if_pos ⟨hb,by omega,h2⟩]
theorem pClose_not {a b:Int} {l:List Tok} (h:¬hd l=125):pClose a b l=(none,l):=by
 match l,h with
 | [],_=>rfl
 | (c,p)::r,h=>simp only [hd] at h;simp [pClose,h]
theorem pClose_of {a b:Int} {p:Nat} {r:List Tok}:pClose a b ((125,p)::r)=(some (some (a,b)),r):=by simp [pClose]
theorem digitO_bounds (c:Int) : -1≤digitO c∧digitO c≤9:=by
 cases e:isDigitB c with
 | false=>rw [digitO_not e];omega
 | true=>have:=isDigit_bounds e;rw [digitO_of e];omega
def CountPost (s:ByteArray) (R:Nat) (nv sv:Value) (w:World) (N:List Nd) (body:Int) (r:Option Rep×List Tok) (e:Ending) (w':World):Prop :=
 (r.1=none∧e=.returned (.tuple #[.int .i64 0,.bool false])∧RdPost s R nv sv w r.2 w') ∨
 ∃a b,r.1=some (some (a,b))∧e=.returned (.tuple #[.int .i64 N.length,.bool true])∧NdPost s R sv w nv (N++[⟨3,0,body,0,a,b⟩]) r.2 w'
theorem readCounts_any (s:ByteArray) (R i:Nat) (nv sv:Value) (N:List Nd) (body c:Int) (p:Nat) (l:List Tok) (w:World) (h:Rd w R s i nv sv) (hown:w.ownsRow (R+1) 186 6 nv N.length (ndsC N)) (hN:N.length≤100000) (hm:s.size≤maxLen) (ha:At s i ((c,p)::l)) :
  Calls Tryz.prog 118 #[.pointer (some ⟨R,0,none⟩),.int .i64 body] w (CountPost s R nv sv w N body (pLow l)):=by
 go_enter Tryz.func118,Tryz.ntmps118
 go_wp2_with fail
 refine (pass_any s R i nv sv c p l _ h hm ha).mono ?_
 rintro e w1 ⟨rfl,j1,u1,u2,u3⟩
 obtain ⟨b0,b1⟩:=u1.hd_bounds
 generalize hc1:hd l=c1 at b0 b1
 have HC1:Hid (hd l=c1):=hc1
 have U1:Hid (At s j1 l):=u1
 clear hc1 u1 ha h
 go_wp2_with fail
 refine (peek_at u2 hm U1.out).mono ?_
 rw [HC1.out]
 rintro e wx ⟨rfl,n1,rfl⟩
 go_wp2_with fail
 refine (digitOf_any _ _ b0 b1).mono ?_
 rintro e wx ⟨rfl,rfl⟩
 rcases Bool.eq_false_or_eq_true (isDigitB c1) with hd1|hd1
 ·rw [digitO_of hd1]
  have hb:=isDigit_bounds hd1
  obtain ⟨p1,r1,hlr⟩:=hd_cons_of HC1.out (by omega)
  subst hlr
  go_wp2_with fail
  refine (pass_any s R j1 nv sv c1 p1 r1 _ (u2.drewN _) hm U1.out).mono ?_
  rintro e w2 ⟨rfl,j2,y1,y2,y3⟩
  obtain ⟨b2,b3⟩:=y1.hd_bounds
  generalize hc2:hd r1=c2 at b2 b3
  have HC2:Hid (hd r1=c2):=hc2
  have Y1:Hid (At s j2 r1):=y1
  have K2:Hid (Kp (fun k=>k=R) w w2):=(u3.drewN _).trans y3
  clear hc2 y1 u2 y3
  go_wp2_with fail
  refine (peek_at y2 hm Y1.out).mono ?_
  rw [HC2.out]
  rintro e wx ⟨rfl,n2,rfl⟩
  go_wp2_with fail
  refine (digitOf_any _ _ b2 b3).mono ?_
  rintro e wx ⟨rfl,rfl⟩
  obtain ⟨v0,v1⟩:=digitO_bounds c2
  by_cases hlo:digitO c2<1∨digitO c2<c1 - 48
  ·generalize hv:digitO c2=v at v0 v1 hlo
   have HV:Hid (digitO c2=v):=hv
   clear hv
   have hfin:Hid (pLow ((c1,p1)::r1)=(none,r1)):=by
    show pLow _=_
    rw [pLow_of hd1,pHigh_not (by rw [HC2.out,HV.out];exact hlo)]
   by_cases hlo1:v<1
   ·go_wp2
    go_ret2
    rw [hfin.out]
    exact Or.inl ⟨rfl,rfl,j2,Y1.out,y2.drewN _,K2.out.drewN _⟩
   ·have hlo2:v<c1 - 48:=by omega
    clear hlo
    go_wp2
    go_ret2
    rw [hfin.out]
    exact Or.inl ⟨rfl,rfl,j2,Y1.out,y2.drewN _,K2.out.drewN _⟩
  ·have g1:1≤digitO c2:=by omega
   have g2:c1 - 48≤digitO c2:=by omega
   clear hlo
   obtain ⟨p2,r2,hlr⟩:=hd_cons_of HC2.out (by
    cases e:isDigitB c2 with
    | false=>rw [digitO_not e] at g1;omega
    | true=>have:=isDigit_bounds e;omega)
   subst hlr
   obtain ⟨hd2,hph⟩:=pHigh_of (a:=c1 - 48) (p:=p2) (r:=r2) g1 g2
   rw [digitO_of hd2] at g1 g2
   rw [digitO_of hd2]
   have HPH:Hid (pLow ((c1,p1)::(c2,p2)::r2)=pClose (c1 - 48) (c2 - 48) r2):=by show pLow _=_;rw [pLow_of hd1,hph]
   clear hph v0 v1
   go_wp2_with fail
   refine (pass_any s R j2 nv sv c2 p2 r2 _ (y2.drewN _) hm Y1.out).mono ?_
   rintro e w3 ⟨rfl,j3,t1,t2,t3⟩
   obtain ⟨b4,b5⟩:=t1.hd_bounds
   generalize hc3:hd r2=c3 at b4 b5
   have HC3:Hid (hd r2=c3):=hc3
   have T1:Hid (At s j3 r2):=t1
   have K3:Hid (Kp (fun k=>k=R) w w3):=(K2.out.drewN _).trans t3
   clear hc3 t1 y2 t3 K2
   go_wp2_with fail
   refine (peek_at t2 hm T1.out).mono ?_
   rw [HC3.out]
   rintro e wx ⟨rfl,n3,rfl⟩
   by_cases h125:c3=125
   ·obtain ⟨p3,r3,hlr⟩:=hd_cons_of HC3.out (by omega)
    subst h125
    subst hlr
    go_wp2_with fail
    refine (repeat_any s R j3 nv sv N body (c1 - 48) (c2 - 48) 125 p3 r3 _ (t2.drewN _) (ownsRow_kp hown (K3.out.drewN _) (Nat.lt_succ_self R)) hN hm T1.out).mono ?_
    rintro e w4 ⟨rfl,z1⟩
    go_wp2
    go_ret2
    rw [HPH.out,pClose_of]
    exact Or.inr ⟨c1 - 48,c2 - 48,rfl,rfl,NdPost.before (K3.out.drewN _) z1⟩
   ·have h125':(c3 != 125)=true:=by simp [h125]
    go_wp2
    go_ret2
    rw [HPH.out,pClose_not (by rw [HC3.out];exact h125)]
    exact Or.inl ⟨rfl,rfl,j3,T1.out,t2.drewN _,K3.out.drewN _⟩
 ·rw [digitO_not hd1]
  go_wp2
  go_ret2
  rw [pLow_not (by rw [HC1.out];exact hd1)]
  exact Or.inl ⟨rfl,rfl,j1,U1.out,u2.drewN _,u3.drewN _⟩
def stC (x:St×Value):List Value:=[.int .i64 x.1.pos,.int .i64 x.1.kind,.int .i64 x.1.name,x.2]
def stsC (l:List (St×Value)):List Value:=(l.map stC).flatten
def TestsAt (w:World) (R:Nat) (x:St×Value):Prop:=w.ownsRow (R+1) 118 11 x.2 x.1.tests.length (tstsC x.1.tests)
structure RS (w:World) (R:Nat) (s:ByteArray) (i:Nat) (nv sv:Value) (N:List Nd) (L:List (St×Value)):Prop where
 rd:Rd w R s i nv sv
 nodes:w.ownsRow (R+1) 186 6 nv N.length (ndsC N)
 steps:w.ownsRow (R+1) 100 4 sv L.length (stsC L)
 tests:∀x∈L,TestsAt w R x
theorem ownsRow_apart {w w':World} {R base size n:Nat} {e e2:TypeId} {v v2:Value} {xs xs2:List Value} {n2 size2 base2:Nat} (h:w.ownsRow base e size v n xs) (h2:w.ownsRow base2 e2 size2 v2 n2 xs2) (hne:¬e=e2) (hR:R<base)
  (hk:Kp (fun k=>k=R∨v2.ownBlock=some k) w w'):w'.ownsRow base e size v n xs:=by
 refine ⟨h.1,?_⟩
 rcases h.2 with hn|⟨g,cap,cur,rfl,hb,hg,rest⟩
 ·exact .inl hn
 ·refine .inr ⟨g,cap,cur,rfl,hb,?_,rest⟩
  rw [hk.block g (Array.getElem?_eq_some_iff.1 hg).1 ?_]
  ·exact hg
  ·rintro (e1|e1)
   ·omega
   ·rcases h2.2 with ⟨rfl,_⟩ | ⟨g2,cap2,cur2,rfl,_,hg2,_⟩
    ·simp [Value.ownBlock] at e1
    ·simp only [Value.ownBlock,Option.some.injEq] at e1
     subst e1
     rw [hg] at hg2
     simp only [Option.some.injEq,Obj.cells.injEq] at hg2
     exact hne hg2.2.1
theorem RS.kp {w w1:World} {R i j:Nat} {s:ByteArray} {nv sv:Value} {N:List Nd} {L:List (St×Value)} (h:RS w R s i nv sv N L) (hk:Kp (fun k=>k=R) w w1) (hr:Rd w1 R s j nv sv):RS w1 R s j nv sv N L :=
 ⟨hr,ownsRow_kp h.nodes hk (Nat.lt_succ_self R),ownsRow_kp h.steps hk (Nat.lt_succ_self R),fun x hx=>ownsRow_kp (h.tests x hx) hk (Nat.lt_succ_self R)⟩
theorem RS.drewN {w:World} {R i:Nat} {s:ByteArray} {nv sv:Value} {N:List Nd} {L:List (St×Value)} (h:RS w R s i nv sv N L) (n:Nat):RS (w.drewN n) R s i nv sv N L :=
 ⟨h.rd.drewN n,h.nodes,h.steps,h.tests⟩
theorem RS.nd {w w':World} {R i j:Nat} {s:ByteArray} {nv nv' sv:Value} {N M:List Nd} {L:List (St×Value)} (h:RS w R s i nv sv N L) (hr:Rd w' R s j nv' sv) (ho:w'.ownsRow (R+1) 186 6 nv' M.length (ndsC M)) (hk:Kp (fun k=>k=R∨nv.ownBlock=some k) w w'):RS w' R s j nv' sv M L :=
 ⟨hr,ho,ownsRow_apart h.steps h.nodes (by decide) (Nat.lt_succ_self R) hk,fun x hx=>ownsRow_apart (h.tests x hx) h.nodes (by decide) (Nat.lt_succ_self R) hk⟩
end Go.Proofs.YtcboiapggnmpfaaGreatDoor
