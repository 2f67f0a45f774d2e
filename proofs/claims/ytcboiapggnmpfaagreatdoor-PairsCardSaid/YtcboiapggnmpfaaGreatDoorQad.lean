import Derived.Test.YtcboiapggnmpfaaGreatDoorQac
import Derived.Test.YtcboiapggnmpfaaGreatDoorQaa
import Derived.Deep.AppendLies
import Derived.OwnWalk
import Derived.OneCell
import Derived.Laws.MakeOwn
import Derived.Deep.MidRow
import Derived.Deep.LoopGhost
namespace Go.Proofs.YtcboiapggnmpfaaGreatDoor
set_option maxRecDepth 100000
set_option maxHeartbeats 2000000
set_option linter.unusedSimpArgs false
set_option linter.unusedVariables false
open Go.RowKit
theorem Rd.lt {w:World} {R:Nat} {s:ByteArray} {i:Nat} {nv sv:Value} (h:Rd w R s i nv sv):R<w.heap.size:=World.block_lt_of_cell? w ⟨R,0,none⟩ h.c0
theorem Rd.alloc {w:World} {R:Nat} {s:ByteArray} {i:Nat} {nv sv:Value} (h:Rd w R s i nv sv) (o:Obj):Rd (w.alloc o) R s i nv sv:=by
 have hl:=h.lt
 obtain ⟨c0,c1,c2,c3,z1,z2,z3⟩:=h
 constructor <;> simp [go_sem,hl,World.cell?_alloc_past,World.frozen?_alloc_past, *]
theorem Rd.other {w:World} {R:Nat} {s:ByteArray} {i:Nat} {nv sv:Value} (h:Rd w R s i nv sv) {b o:Nat} (hb:¬b=R) (v:Value):Rd (w.setCell ⟨b,o,none⟩ v) R s i nv sv:=by
 have hb':¬R=b:=fun e=>hb e.symm
 obtain ⟨c0,c1,c2,c3,z1,z2,z3⟩:=h
 constructor <;> simp [go_sem,hb,hb', *]
theorem Kp.at {R B:Nat} {W w1:World} (h:Kp (fun k=>k=R) W w1) (hB:B<W.heap.size) (hne:¬B=R) :
  (∀o,w1.cell? ⟨B,o,none⟩=W.cell? ⟨B,o,none⟩)∧(∀o,w1.frozen? ⟨B,o,none⟩=W.frozen? ⟨B,o,none⟩)∧B<w1.heap.size :=
 ⟨fun o=>h.cell (p:=⟨B,o,none⟩) hB hne,fun o=>h.frozen (p:=⟨B,o,none⟩) hB hne,Nat.lt_of_lt_of_le hB h.size⟩
def TermPost (s:ByteArray) (R:Nat) (nv sv:Value) (w:World) (r:Option Tm×List Tok) (e:Ending) (w':World):Prop :=
 ∃a c d b,e=.returned (.tuple #[.agg #[.int .i64 a,.int .i64 c,.int .i64 d],.bool b])∧r.1=(if b=true then some ⟨a,c,d⟩ else none)∧RdPost s R nv sv w r.2 w'
theorem readTerm_num (s:ByteArray) (R i:Nat) (nv sv:Value) (l:List Tok) (w:World) (h:Rd w R s i nv sv) (hs:s.size≤maxLen) (ha:At s i l) (hd':isDigitB (hd l)=true) :
  Calls Tryz.prog 132 #[.pointer (some ⟨R,0,none⟩)] w (TermPost s R nv sv w (pTerm l)):=by
 have hl:=h.lt
 have hne:¬w.heap.size=R:=by omega
 obtain ⟨b0,b1⟩:=ha.hd_bounds
 have hb:=isDigit_bounds hd'
 have HT:Hid (pTerm l=match pNum 0 0 l with|(some v,x)=>(some ⟨0,0,v⟩,x)|(none,x)=>(none,x)):=by
  show pTerm l=_
  match l,hd' with
  | (c,p)::r,hd'=>simp only [hd] at hd';simp only [pTerm,if_pos hd'];rfl
 go_enter Tryz.func132,Tryz.ntmps132
 go_wp2_with (first
  | (go_at_call 61;refine (peek_at (s:=s) (i:=i) (nv:=nv) (sv:=sv) (l:=l) ?_ hs ha).mono ?_;exact h.alloc _;rintro e w1 ⟨rfl,n1,rfl⟩)
  | (go_at_call 90;refine (digitOf_any _ _ (by omega) (by omega)).mono ?_;rw [digitO_of hd'];rintro e w1 ⟨rfl,rfl⟩)
  | (go_at_call 63;refine (readNumber_any s R i nv sv l _ ?_ hs ha).mono ?_;exact (h.alloc _).drewN _;rintro e w1 ⟨v,b,rfl,hv,j,q1,q2,q3⟩;obtain ⟨f1,g1,s1⟩:=q3.at (B:=w.heap.size) (by simp) hne))
 refine bodyPost_ret (by simp [results,Tryz.results132,go_sem,f1];rfl) rfl ?_
 go_light
 refine ⟨_,_,_,_,rfl,?_,j,?_,?_,?_⟩
 ·rw [HT.out]
  revert hv
  generalize pNum 0 0 l=z
  obtain ⟨z1,z2⟩:=z
  intro hv
  simp only at hv
  subst hv
  cases b <;> rfl
 ·rw [HT.out]
  revert q1
  generalize pNum 0 0 l=z
  obtain ⟨z1,z2⟩:=z
  cases z1 <;> exact fun q1=>q1
 ·exact ((q2.other hne _).other hne _).other hne _
 ·exact ((((((Kp.refl (fun k=>k=R) w).alloc _).drewN _).trans q3).setCell (p:=⟨w.heap.size,0,none⟩) (Or.inl (Nat.le_refl _)) _).setCell (p:=⟨w.heap.size,1,none⟩) (Or.inl (Nat.le_refl _)) _).setCell (p:=⟨w.heap.size,2,none⟩) (Or.inl (Nat.le_refl _)) _
theorem nameO_of {c:Int} (h:isNameB c=true):nameO c=c - 65:=by simp [nameO,h]
theorem nameO_not {c:Int} (h:isNameB c=false):nameO c = -1:=by simp [nameO,h]
theorem fieldO_of {c:Int} (h:isFieldB c=true):fieldO c=fieldV c:=by simp [fieldO,h]
theorem fieldO_not {c:Int} (h:isFieldB c=false):fieldO c = -1:=by simp [fieldO,h]
theorem fieldV_bounds (c : Int) : 0 ≤ fieldV c ∧ fieldV c ≤ 3 := by unfold fieldV; split; · omega
                                                                    split; · omega
                                                                    split <;> omega
theorem isName_bounds {c:Int} (h:isNameB c=true):65≤c∧c≤90:=by simpa [isNameB] using h
theorem hd_cons_of {l:List Tok} {c:Int} (h:hd l=c) (h0:0<c):∃p r,l=(c,p)::r:=by
 match l,h with
 | [],e=>simp only [hd] at e;omega
 | (d,p)::r,e=>exact ⟨p,r,by rw [←e];rfl⟩
theorem pField_of {of:Int} {c:Int} {p:Nat} {r:List Tok} (h:isFieldB c=true):pField of ((c,p)::r)=(some ⟨of,fieldV c,0⟩,r):=by simp [pField,h]
theorem pField_not {of:Int} {l:List Tok} (h:isFieldB (hd l)=false):pField of l=(none,l):=by
 match l,h with
 | [],_=>rfl
 | (c,p)::r,h=>simp only [hd] at h;simp [pField,h]
theorem isField_bounds {c:Int} (h:isFieldB c=true):116≤c∧c≤122:=by
 have:c=116∨(120≤c∧c≤122):=by simpa [isFieldB] using h
 omega
theorem readTerm_own (s:ByteArray) (R i:Nat) (nv sv:Value) (l:List Tok) (w:World) (h:Rd w R s i nv sv) (hs:s.size≤maxLen) (ha:At s i l) (hd':isDigitB (hd l)=false) (hn':isNameB (hd l)=false) :
  Calls Tryz.prog 132 #[.pointer (some ⟨R,0,none⟩)] w (TermPost s R nv sv w (pTerm l)):=by
 have hl:=h.lt
 have hne:¬w.heap.size=R:=by omega
 obtain ⟨b0,b1⟩:=ha.hd_bounds
 have HT:Hid (pTerm l=pField 1 l):=by
  show pTerm l=_
  match l,hd',hn' with
  | [],_,_=>rfl
  | (c,p)::r,hd',hn'=>simp only [hd] at hd' hn';simp [pTerm,hd',hn']
 rcases Bool.eq_false_or_eq_true (isFieldB (hd l)) with hf|hf
 ·have hfb:=isField_bounds hf
  have hvb:=fieldV_bounds (hd l)
  obtain ⟨p,r,hlr⟩:=hd_cons_of (l:=l) rfl (by omega)
  generalize hc:hd l=c at *
  have HC:Hid (hd l=c):=hc
  clear hc
  go_enter Tryz.func132,Tryz.ntmps132
  have HLR:Hid (l=(c,p)::r):=hlr
  clear hlr
  go_wp2_with (first
   | (go_at_call 61;refine (peek_at (s:=s) (i:=i) (nv:=nv) (sv:=sv) (l:=l) ?_ hs ha).mono ?_;(first|exact h.alloc _|exact (h.alloc _).drewN _);rw [HC.out];rintro e w1 ⟨rfl,n1,rfl⟩)
   | (go_at_call 90;refine (digitOf_any _ _ (by omega) (by omega)).mono ?_;rw [digitO_not hd'];rintro e w1 ⟨rfl,rfl⟩)
   | (go_at_call 129;refine (nameOf_any _ _ (by omega) (by omega)).mono ?_;rw [nameO_not hn'];rintro e w1 ⟨rfl,rfl⟩)
   | (go_at_call 135;refine (fieldOf_any _ _ (by omega) (by omega)).mono ?_;rw [fieldO_of hf];rintro e w1 ⟨rfl,rfl⟩)
   | (go_at_call 62;refine (pass_any s R i nv sv c p r _ ?_ hs ?_).mono ?_;exact (h.alloc _).drewN _;(rw [←HLR.out];exact ha);rintro e w1 ⟨rfl,j,q1,q2,q3⟩;obtain ⟨f1,g1,s1⟩:=q3.at (B:=w.heap.size) (by simp) hne))
  refine bodyPost_ret (by simp [results,Tryz.results132,go_sem,f1];rfl) rfl ?_
  go_light
  rw [HT.out,HLR.out,pField_of hf]
  refine ⟨_,_,_,_,rfl,rfl,j,q1,?_,?_⟩
  ·exact ((q2.other hne _).other hne _).other hne _
  ·exact ((((((Kp.refl (fun k=>k=R) w).alloc _).drewN _).trans q3).setCell (p:=⟨w.heap.size,0,none⟩) (Or.inl (Nat.le_refl _)) _).setCell (p:=⟨w.heap.size,1,none⟩) (Or.inl (Nat.le_refl _)) _).setCell (p:=⟨w.heap.size,2,none⟩) (Or.inl (Nat.le_refl _)) _
 ·generalize hc:hd l=c at *
  have HC:Hid (hd l=c):=hc
  clear hc
  go_enter Tryz.func132,Tryz.ntmps132
  go_wp2_with (first
   | (go_at_call 61;refine (peek_at (s:=s) (i:=i) (nv:=nv) (sv:=sv) (l:=l) ?_ hs ha).mono ?_;(first|exact h.alloc _|exact (h.alloc _).drewN _);rw [HC.out];rintro e w1 ⟨rfl,n1,rfl⟩)
   | (go_at_call 90;refine (digitOf_any _ _ (by omega) (by omega)).mono ?_;rw [digitO_not hd'];rintro e w1 ⟨rfl,rfl⟩)
   | (go_at_call 129;refine (nameOf_any _ _ (by omega) (by omega)).mono ?_;rw [nameO_not hn'];rintro e w1 ⟨rfl,rfl⟩)
   | (go_at_call 135;refine (fieldOf_any _ _ (by omega) (by omega)).mono ?_;rw [fieldO_not hf];rintro e w1 ⟨rfl,rfl⟩))
  refine bodyPost_ret (by simp [results,Tryz.results132,go_sem];rfl) rfl ?_
  go_light
  rw [HT.out,pField_not (by rw [HC.out];exact hf)]
  refine ⟨_,_,_,_,rfl,rfl,i,ha,(((((h.alloc _).drewN _).other hne _).other hne _).other hne _),(((((Kp.refl (fun k=>k=R) w).alloc _).drewN _).setCell (p:=⟨w.heap.size,0,none⟩) (Or.inl (Nat.le_refl _)) _).setCell (p:=⟨w.heap.size,1,none⟩) (Or.inl (Nat.le_refl _)) _).setCell (p:=⟨w.heap.size,2,none⟩) (Or.inl (Nat.le_refl _)) _⟩
theorem hd_toks_bounds:∀(b:List Int),(∀c∈b,0≤c∧c≤255)→∀i,0≤hd (toks i b)∧hd (toks i b)≤255:=by
 intro b
 induction b with
 | nil=>intro _ i;simp [toks,hd]
 | cons c r ih =>
  intro h i
  simp only [toks]
  by_cases h32:c=32
  ·simp only [if_pos h32];exact ih (fun d hd=>h d (List.mem_cons_of_mem _ hd)) _
  ·simp only [if_neg h32,hd];exact h c (List.mem_cons_self)
theorem bI_bytes (s:ByteArray) (k:Nat):∀c∈(bI s).drop k,0≤c∧c≤255:=by
 intro c hc
 have:=List.mem_of_mem_drop hc
 simp only [bI,List.mem_map] at this
 obtain ⟨b,_,rfl⟩:=this
 have:=UInt8.toNat_lt b
 omega
theorem readTerm_named (s:ByteArray) (R i:Nat) (nv sv:Value) (l:List Tok) (w:World) (h:Rd w R s i nv sv) (hs:s.size≤maxLen) (ha:At s i l) (hd':isDigitB (hd l)=false) (hn':isNameB (hd l)=true) :
  Calls Tryz.prog 132 #[.pointer (some ⟨R,0,none⟩)] w (TermPost s R nv sv w (pTerm l)):=by
 have hl:=h.lt
 have hne:¬w.heap.size=R:=by omega
 obtain ⟨b0,b1⟩:=ha.hd_bounds
 have hnb:=isName_bounds hn'
 obtain ⟨p,r,hlr⟩:=hd_cons_of (l:=l) rfl (by omega)
 generalize hc:hd l=c at *
 have HC:Hid (hd l=c):=hc
 have HT:Hid (pTerm l=pField (2+(c - 65)) r):=by
  show pTerm l=_
  rw [hlr]
  simp [pTerm,hd',hn']
 have HLR:Hid (l=(c,p)::r):=hlr
 have hm:(c - 65 != -1)=true:=by simp;omega
 clear hc hlr
 rcases Bool.eq_false_or_eq_true (isFieldB (hd r)) with hf|hf
 ·have hfb:=isField_bounds hf
  have hvb:=fieldV_bounds (hd r)
  obtain ⟨p2,r2,hlr2⟩:=hd_cons_of (l:=r) rfl (by omega)
  generalize hc2:hd r=c2 at *
  have HC2:Hid (hd r=c2):=hc2
  have HLR2:Hid (r=(c2,p2)::r2):=hlr2
  clear hc2 hlr2
  go_enter Tryz.func132,Tryz.ntmps132
  go_wp2_with (first
   | (go_at_call 61;have hq:=Q1.out;refine (peek_at (s:=s) (i:=j) (nv:=nv) (sv:=sv) (l:=r) ?_ hs hq).mono ?_;(first|exact q2|exact q2.drewN _);rw [HC2.out];rintro e w1 ⟨rfl,n1,rfl⟩)
   | (go_at_call 135;refine (fieldOf_any _ _ (by omega) (by omega)).mono ?_;rw [fieldO_of hf];rintro e w1 ⟨rfl,rfl⟩)
   | (go_at_call 62;have hq:=Q1.out;rw [HLR2.out] at hq;refine (pass_any s R j nv sv c2 p2 r2 _ (q2.drewN _) hs hq).mono ?_;rintro e w2 ⟨rfl,j2,u1,u2,u3⟩;obtain ⟨f2,g2,s2⟩:=u3.at (B:=w.heap.size) (by simp;omega) hne;have U1:Hid (At s j2 r2):=u1;clear u1)
   | (go_at_call 61;refine (peek_at (s:=s) (i:=i) (nv:=nv) (sv:=sv) (l:=l) ?_ hs ha).mono ?_;(first|exact h.alloc _|exact (h.alloc _).drewN _);rw [HC.out];rintro e w1 ⟨rfl,n1,rfl⟩)
   | (go_at_call 90;refine (digitOf_any _ _ (by omega) (by omega)).mono ?_;rw [digitO_not hd'];rintro e w1 ⟨rfl,rfl⟩)
   | (go_at_call 129;refine (nameOf_any _ _ (by omega) (by omega)).mono ?_;rw [nameO_of hn'];rintro e w1 ⟨rfl,rfl⟩)
   | (go_at_call 62;refine (pass_any s R i nv sv c p r _ ?_ hs ?_).mono ?_;exact (h.alloc _).drewN _;(rw [←HLR.out];exact ha);rintro e w1 ⟨rfl,j,q1,q2,q3⟩;obtain ⟨f1,g1,s1⟩:=q3.at (B:=w.heap.size) (by simp) hne;have Q1:Hid (At s j r):=q1;clear q1))
  refine bodyPost_ret (by simp [results,Tryz.results132,go_sem,f1,f2];rfl) rfl ?_
  go_light
  rw [HT.out,HLR2.out,pField_of hf]
  refine ⟨_,_,_,_,rfl,rfl,j2,U1.out,?_,?_⟩
  ·exact ((u2.other hne _).other hne _).other hne _
  ·exact (((((((((Kp.refl (fun k=>k=R) w).alloc _).drewN _).trans q3).drewN _).trans u3).setCell (p:=⟨w.heap.size,0,none⟩) (Or.inl (Nat.le_refl _)) _).setCell (p:=⟨w.heap.size,1,none⟩) (Or.inl (Nat.le_refl _)) _).setCell (p:=⟨w.heap.size,2,none⟩) (Or.inl (Nat.le_refl _)) _)
 ·have hb2:0≤hd r∧hd r≤255:=by
   obtain ⟨hlt,_,_,hr⟩:=(by rw [←HLR.out];exact ha:At s i ((c,p)::r)).cons
   rw [hr]
   exact hd_toks_bounds _ (bI_bytes s _) _
  obtain ⟨b2,b3⟩:=hb2
  generalize hc2:hd r=c2 at *
  have HC2:Hid (hd r=c2):=hc2
  clear hc2
  go_enter Tryz.func132,Tryz.ntmps132
  go_wp2_with (first
   | (go_at_call 61;have hq:=Q1.out;refine (peek_at (s:=s) (i:=j) (nv:=nv) (sv:=sv) (l:=r) ?_ hs hq).mono ?_;(first|exact q2|exact q2.drewN _);rw [HC2.out];rintro e w1 ⟨rfl,n1,rfl⟩)
   | (go_at_call 135;refine (fieldOf_any _ _ (by omega) (by omega)).mono ?_;rw [fieldO_not hf];rintro e w1 ⟨rfl,rfl⟩)
   | (go_at_call 61;refine (peek_at (s:=s) (i:=i) (nv:=nv) (sv:=sv) (l:=l) ?_ hs ha).mono ?_;(first|exact h.alloc _|exact (h.alloc _).drewN _);rw [HC.out];rintro e w1 ⟨rfl,n1,rfl⟩)
   | (go_at_call 90;refine (digitOf_any _ _ (by omega) (by omega)).mono ?_;rw [digitO_not hd'];rintro e w1 ⟨rfl,rfl⟩)
   | (go_at_call 129;refine (nameOf_any _ _ (by omega) (by omega)).mono ?_;rw [nameO_of hn'];rintro e w1 ⟨rfl,rfl⟩)
   | (go_at_call 62;refine (pass_any s R i nv sv c p r _ ?_ hs ?_).mono ?_;exact (h.alloc _).drewN _;(rw [←HLR.out];exact ha);rintro e w1 ⟨rfl,j,q1,q2,q3⟩;obtain ⟨f1,g1,s1⟩:=q3.at (B:=w.heap.size) (by simp) hne;have Q1:Hid (At s j r):=q1;clear q1))
  refine bodyPost_ret (by simp [results,Tryz.results132,go_sem,f1];rfl) rfl ?_
  go_light
  rw [HT.out,pField_not (by rw [HC2.out];exact hf)]
  refine ⟨_,_,_,_,rfl,rfl,j,Q1.out,?_,?_⟩
  ·exact (((q2.drewN _).other hne _).other hne _).other hne _
  ·exact ((((((((Kp.refl (fun k=>k=R) w).alloc _).drewN _).trans q3).drewN _).setCell (p:=⟨w.heap.size,0,none⟩) (Or.inl (Nat.le_refl _)) _).setCell (p:=⟨w.heap.size,1,none⟩) (Or.inl (Nat.le_refl _)) _).setCell (p:=⟨w.heap.size,2,none⟩) (Or.inl (Nat.le_refl _)) _)
theorem readTerm_any (s:ByteArray) (R i:Nat) (nv sv:Value) (l:List Tok) (w:World) (h:Rd w R s i nv sv) (hs:s.size≤maxLen) (ha:At s i l) :
  Calls Tryz.prog 132 #[.pointer (some ⟨R,0,none⟩)] w (TermPost s R nv sv w (pTerm l)):=by
 rcases Bool.eq_false_or_eq_true (isDigitB (hd l)) with hd' | hd'
 ·exact readTerm_num s R i nv sv l w h hs ha hd'
 ·rcases Bool.eq_false_or_eq_true (isNameB (hd l)) with hn' | hn'
  ·exact readTerm_named s R i nv sv l w h hs ha hd' hn'
  ·exact readTerm_own s R i nv sv l w h hs ha hd' hn'
abbrev Nw (w w':World):Prop:=Kp (fun _=>False) w w'
structure Sm (W w1:World) (B:Nat):Prop where
 cell:∀o,w1.cell? ⟨B,o,none⟩=W.cell? ⟨B,o,none⟩
 froz:∀o,w1.frozen? ⟨B,o,none⟩=W.frozen? ⟨B,o,none⟩
theorem Sm.trans {a b c:World} {B:Nat} (h:Sm b c B) (k:Sm a b B):Sm a c B:=⟨fun o=>(h.cell o).trans (k.cell o),fun o=>(h.froz o).trans (k.froz o)⟩
theorem Kp.sm {S:Nat→Prop} {W w1:World} {B:Nat} (h:Kp S W w1) (hB:B<W.heap.size) (hs:¬S B):Sm W w1 B:=⟨fun o=>h.cell hB hs,fun o=>h.frozen hB hs⟩
theorem Kp.box {S:Nat→Prop} {w w1:World} {o:Obj} (k:Kp S (w.alloc o) w1) (hs:¬S w.heap.size):Kp S w w1∧w.heap.size<w1.heap.size∧Sm (w.alloc o) w1 w.heap.size :=
 ⟨((Kp.refl S w).alloc _).trans k,Nat.lt_of_lt_of_le (by simp) k.size,k.sm (by simp) hs⟩
theorem Kp.keeps {S:Nat→Prop} {W w1 w2:World} {B:Nat} (k:Kp S w1 w2) (s:Sm W w1 B) (h:B<w1.heap.size) (hs:¬S B):B<w2.heap.size∧Sm W w2 B :=
 ⟨Nat.lt_of_lt_of_le h k.size,(k.sm h hs).trans s⟩
theorem ret_b {a b:Bool} (h:a=b):Ending.returned (.bool a)=.returned (.bool b):=by rw [h]
open Value (int bool)
def Row (w:World) (g:Nat) (e:TypeId) (vs:List Value):Prop:=w.heap[g]? = some (.cells vs.toArray e (0,0))
theorem Row.lt {w:World} {g:Nat} {e:TypeId} {vs:List Value} (h:Row w g e vs):g<w.heap.size:=(Array.getElem?_eq_some_iff.1 h).1
theorem Row.cell {w:World} {g:Nat} {e:TypeId} {vs:List Value} (h:Row w g e vs) (k:Nat):w.cell? ⟨g,k,none⟩=vs[k]?:=by
 rw [cell_of_row w g k _ e _ h];simp
theorem Row.froz {w:World} {g:Nat} {e:TypeId} {vs:List Value} (h:Row w g e vs) (k:Nat):w.frozen? ⟨g,k,none⟩=false:=frozen_of_row w g k _ e h
theorem Row.set {w:World} {g:Nat} {e:TypeId} {vs:List Value} (h:Row w g e vs) (k:Nat) (v:Value):Row (w.setCell ⟨g,k,none⟩ v) g e (vs.set k v):=by
 have:=heap_setCell_same w g k _ e v h
 rw [Row,this]
 simp
theorem Row.kp {S:Nat→Prop} {w w':World} {g:Nat} {e:TypeId} {vs:List Value} (h:Row w g e vs) (k:Kp S w w') (hs:¬S g):Row w' g e vs:=by
 rw [Row,k.block g h.lt hs];exact h
theorem Row.grown {w w':World} {g:Nat} {e:TypeId} {vs:List Value} {row:Option Nat} (h:Row w g e vs) (k:w.grownBy w' row) (hs:¬some g=row):Row w' g e vs:=by
 rw [Row,k.block g h.lt hs];exact h
theorem Row.alloc {w:World} {g:Nat} {e:TypeId} {vs:List Value} (h:Row w g e vs) (o:Obj):Row (w.alloc o) g e vs:=by
 rw [Row,Below.heap_alloc _ _ _ h.lt];exact h
theorem Row.new (w:World) (vs:List Value) (e:TypeId):Row (w.alloc (.cells vs.toArray e)) w.heap.size e vs:=by
 exact heap_alloc_new w _
theorem Row.of_full {w:World} {base g n:Nat} {e:TypeId} {xs:List Value} (h:w.ownsRow base e 1 (.slice (some ⟨g,0,none⟩) n n) n xs):Row w g e xs:=by
 obtain ⟨h1,h2⟩:=h
 rcases h2 with ⟨h2,_⟩ | ⟨g',cap,cur,h2,_,h3,_,_,h4,h5⟩
 ·simp at h2
 ·simp at h2
  obtain ⟨rfl,rfl⟩:=h2
  rw [Row,h3]
  have:cur.toList=xs:=by
   rw [←h5,List.take_of_length_le]
   simp [h4]
  rw [←this]
theorem owns_new (w:World) {base:Nat} (hb:base≤w.heap.size) (e:TypeId) (vs:Array Value) (n size:Nat) (hn:vs.size=n*size) (hm:n≤maxLen):(w.alloc (.cells vs e)).ownsRow base e size (.slice (some ⟨w.heap.size,0,none⟩) n n) n vs.toList:=by
 refine ⟨by simpa using hn,Or.inr ⟨w.heap.size,n,vs,rfl,hb,heap_alloc_new w _,Nat.le_refl _,hm,hn,?_⟩⟩
 rw [List.take_of_length_le]
 simp [hn]
theorem owns_cell {w:World} {base g n cap size:Nat} {e:TypeId} {xs:List Value} (h:w.ownsRow base e size (.slice (some ⟨g,0,none⟩) n cap) n xs) (k:Nat) {v:Value} (hk:xs[k]? = some v):w.cell? ⟨g,k,none⟩=some v:=by
 obtain ⟨h1,h2⟩:=h
 rcases h2 with ⟨h2,_⟩ | ⟨g',cap',cur,h2,_,h3,_,_,h4,h5⟩
 ·simp at h2
 ·simp at h2
  obtain ⟨rfl,rfl⟩:=h2
  rw [cell_of_row w g k _ e _ h3,←Array.getElem?_toList]
  have hlt:k<n*size:=by rw [←h1];exact (List.getElem?_eq_some_iff.1 hk).1
  have:(cur.toList.take (n*size))[k]? = some v:=by rw [h5];exact hk
  rwa [List.getElem?_take_of_lt hlt] at this
theorem owns_row_ne {w:World} {base n size g:Nat} {e e2:TypeId} {v:Value} {xs vs:List Value} (h:w.ownsRow base e size v n xs) (h2:Row w g e2 vs) (hne:¬e=e2):¬some g=v.ownBlock:=by
 intro hg
 rcases h.2 with ⟨rfl,_⟩ | ⟨g',cap,cur,rfl,_,h3,_⟩
 ·simp [Value.ownBlock] at hg
 ·simp [Value.ownBlock] at hg
  subst hg
  rw [Row,h3] at h2
  simp only [Option.some.injEq,Obj.cells.injEq] at h2
  exact hne h2.2.1
theorem owns_kp {S:Nat→Prop} {w w':World} {base n size:Nat} {e:TypeId} {v:Value} {xs:List Value} (h:w.ownsRow base e size v n xs) (k:Kp S w w') (hs:∀g,v.ownBlock=some g→¬S g):w'.ownsRow base e size v n xs:=by
 refine ⟨h.1,?_⟩
 rcases h.2 with hn|⟨g,cap,cur,rfl,hb,hg,rest⟩
 ·exact .inl hn
 ·refine .inr ⟨g,cap,cur,rfl,hb,?_,rest⟩
  rw [k.block g (Array.getElem?_eq_some_iff.1 hg).1 (hs g rfl)]
  exact hg
theorem made_bools (n:Nat):(madeCells #[bool false] n).toList=(List.replicate n false).map bool:=by
 have hx:∀x:Nat,(#[bool false]:Array Value)[x % (#[bool false]:Array Value).size]! = bool false:=by
  intro x
  have:x % (#[bool false]:Array Value).size=0:=by simp;omega
  rw [this];rfl
 simp only [madeCells,hx]
 apply List.ext_getElem?
 intro k
 simp [List.getElem?_replicate]
 by_cases h:k<n
 ·simp [h]
 ·simp [h]
def intsV (ns:List Nat):List Value:=ns.map (fun (n:Nat)=>int .i64 (n:Int))
theorem intsV_one (ns:List Nat):∀u∈intsV ns,u.oneCell'=true:=by
 intro u hu
 simp [intsV] at hu
 obtain ⟨n,_,rfl⟩:=hu
 rfl
theorem Row.setCells {g:Nat} {e:TypeId}:∀(vs:List Value) (w:World) (o:Nat) (xs ys zs:List Value),Row w g e (xs++(ys++zs))→xs.length=o→ys.length=vs.length→Row (w.setCells g o vs) g e (xs++(vs++zs)):=by
 intro vs
 induction vs with
 | nil =>
  intro w o xs ys zs h _ hl
  have:ys=[]:=List.eq_nil_of_length_eq_zero (by simpa using hl)
  subst this
  simpa [World.setCells] using h
 | cons v r ih =>
  intro w o xs ys zs h ho hl
  cases ys with
  | nil=>simp at hl
  | cons y ys =>
   have h1:=h.set o v
   have e1:(xs++(y::ys++zs)).set o v=(xs++[v])++(ys++zs):=by
    rw [List.set_append_right _ _ (by omega),ho,Nat.sub_self]
    simp
   rw [e1] at h1
   have h2:=ih (w.setCell ⟨g,o,none⟩ v) (o+1) (xs++[v]) ys zs h1 (by simp [ho]) (by simpa using hl)
   simp only [World.setCells]
   simpa using h2
theorem Kp.setCells {S:Nat→Prop} {a:World} {g:Nat} (hg:a.heap.size≤g∨S g):∀(vs:List Value) (w:World) (o:Nat),Kp S a w→Kp S a (w.setCells g o vs):=by
 intro vs
 induction vs with
 | nil=>intro w o h;exact h
 | cons v r ih=>intro w o h;exact ih _ _ (h.setCell (p:=⟨g,o,none⟩) hg v)
theorem wpList_store_Row {P:Program} {ops:Array Oper} {rest:List Oper} {op:Oper} {a:Act} {w:World} {Q:Exit→Act→World→Prop} (hgd:op.guard=none) (ty:TypeId) (x y:Operand) (ho:op.op=.store ty x y)
  (b o:Nat) (cs:List Value) (hx:a.eval x=.pointer (some ⟨b,o,none⟩)) (hy:a.eval y=.agg cs.toArray) (e:TypeId) (xs ys zs:List Value) (hr:Row w b e (xs++(ys++zs))) (hxo:xs.length=o) (hl:ys.length=cs.length)
  (hi:(P.info? ty).map (·.size)=some cs.length) (h1:∀v∈cs,v.oneCell'=true)
  (h:∀w',Row w' b e (xs++(cs++zs))→Kp (fun k=>k=b) w w'→wpList P ops Q rest (a.put op.dst undef) w'):wpList P ops Q (op::rest) a w:=by
 refine wpList_store_mid hgd ty x y ho b o cs.toArray hx hy ?_ (by simpa using hi) (all_oneCell_toArray h1) ?_
 ·intro j hj
  have hj':j<cs.length:=by simpa using hj
  refine ⟨?_,hr.froz _⟩
  rw [hr.cell,List.getElem?_append_right (by omega),List.getElem?_append_left (by omega)]
  have:o+j - xs.length<ys.length:=by omega
  simp [this]
 ·exact h _ (by simpa using Row.setCells cs w o xs ys zs hr hxo hl) (by simpa using Kp.setCells (S:=fun k=>k=b) (Or.inr rfl) cs w o (Kp.refl _ _))
def insC (x:In):List Value:=[.int .i64 x.op,.int .i64 x.a,.int .i64 x.b,.int .i64 x.test.left.of,.int .i64 x.test.left.field,.int .i64 x.test.left.num,.int .i64 x.test.rel,.int .i64 x.test.right.of,.int .i64 x.test.right.field,.int .i64 x.test.right.num,.int .i64 x.test.arith,.int .i64 x.test.more.of,.int .i64 x.test.more.field,.int .i64 x.test.more.num]
def insV (x:In):Value:=.agg #[.int .i64 x.op,.int .i64 x.a,.int .i64 x.b,.int .i64 x.test.left.of,.int .i64 x.test.left.field,.int .i64 x.test.left.num,.int .i64 x.test.rel,.int .i64 x.test.right.of,.int .i64 x.test.right.field,.int .i64 x.test.right.num,.int .i64 x.test.arith,.int .i64 x.test.more.of,.int .i64 x.test.more.field,.int .i64 x.test.more.num]
def InsAt (w:World) (b o:Nat) (x:In):Prop:=∀k v,(insC x)[k]? = some v→w.cell? ⟨b,o+k,none⟩=some v
theorem InsAt.cells {w:World} {b o:Nat} {x:In} (h:InsAt w b o x) :
  w.cell? ⟨b,o,none⟩=some (.int .i64 x.op)∧w.cell? ⟨b,o+1,none⟩=some (.int .i64 x.a)∧w.cell? ⟨b,o+2,none⟩=some (.int .i64 x.b) ∧
  w.cell? ⟨b,o+3,none⟩=some (.int .i64 x.test.left.of)∧w.cell? ⟨b,o+4,none⟩=some (.int .i64 x.test.left.field)∧w.cell? ⟨b,o+5,none⟩=some (.int .i64 x.test.left.num) ∧
  w.cell? ⟨b,o+6,none⟩=some (.int .i64 x.test.rel)∧w.cell? ⟨b,o+7,none⟩=some (.int .i64 x.test.right.of)∧w.cell? ⟨b,o+8,none⟩=some (.int .i64 x.test.right.field)∧w.cell? ⟨b,o+9,none⟩=some (.int .i64 x.test.right.num) ∧
  w.cell? ⟨b,o+10,none⟩=some (.int .i64 x.test.arith)∧w.cell? ⟨b,o+11,none⟩=some (.int .i64 x.test.more.of)∧w.cell? ⟨b,o+12,none⟩=some (.int .i64 x.test.more.field)∧w.cell? ⟨b,o+13,none⟩=some (.int .i64 x.test.more.num) :=
 ⟨h 0 _ rfl,h 1 _ rfl,h 2 _ rfl,h 3 _ rfl,h 4 _ rfl,h 5 _ rfl,h 6 _ rfl,h 7 _ rfl,h 8 _ rfl,h 9 _ rfl,h 10 _ rfl,h 11 _ rfl,h 12 _ rfl,h 13 _ rfl⟩
structure Code' (w:World) (g:Nat) (l:List In):Prop where
 lt:g<w.heap.size
 ins:∀(i:Nat) x,l[i]? = some x→InsAt w g (i*14) x
theorem Code'.kp {S:Nat→Prop} {w w':World} {g:Nat} {l:List In} (h:Code' w g l) (k:Kp S w w') (hs:¬S g):Code' w' g l :=
 ⟨Nat.lt_of_lt_of_le h.lt k.size,fun i x hx j v hv=>(k.cell (p:=⟨g,i*14+j,none⟩) h.lt hs).trans (h.ins i x hx j v hv)⟩
theorem Tryz.info4:(Tryz.prog.info? 4).map (fun i=>(i.zero,i.size,i.bytes))=some (some (.bool false),1,1):=by kernel_rfl
theorem Tryz.info3:(Tryz.prog.info? 3).map (fun i=>(i.zero,i.size,i.bytes))=some (some (.int .i64 0),1,8):=by kernel_rfl
theorem news_one (w2:World) {B:Nat} (hB:B=w2.heap.size) (cs:Array Value) (t:TypeId):∀j u,cs.toList[j]? = some u→(w2.alloc (.cells cs t)).cell? ((⟨B,0,none⟩:Addr).add j)=some u:=by
 subst hB
 exact World.news_of_block (heap_alloc_new w2 (.cells cs t))
structure Wk (w:World) (R:Nat) (cv rv ov:Value):Prop where
 c0:w.cell? ⟨R,0,none⟩=some cv
 c1:w.cell? ⟨R,1,none⟩=some rv
 c2:w.cell? ⟨R,2,none⟩=some ov
 fz:∀o,w.frozen? ⟨R,o,none⟩=false
theorem Wk.lt {w:World} {R:Nat} {cv rv ov:Value} (h:Wk w R cv rv ov):R<w.heap.size:=World.block_lt_of_cell? w ⟨R,0,none⟩ h.c0
theorem Wk.sm {w w':World} {R:Nat} {cv rv ov:Value} (h:Wk w R cv rv ov) (s:Sm w w' R):Wk w' R cv rv ov :=
 ⟨(s.cell 0).trans h.c0,(s.cell 1).trans h.c1,(s.cell 2).trans h.c2,fun o=>(s.froz o).trans (h.fz o)⟩
theorem Wk.set2 {w:World} {R:Nat} {cv rv ov:Value} (h:Wk w R cv rv ov) (v:Value):Wk (w.setCell ⟨R,2,none⟩ v) R cv rv v:=by
 obtain ⟨c0,c1,c2,fz⟩:=h
 constructor <;> simp [go_sem,c0,c1,c2,fz]
structure WS (w:World) (R g cap gb:Nat) (l:List In) (ov:Value) (bs:List Bool) (q:List Nat):Prop where
 wk:Wk w R (.slice (some ⟨g,0,none⟩) l.length cap) (.slice (some ⟨gb,0,none⟩) l.length l.length) ov
 code:Code' w g l
 row:Row w gb 4 (bs.map bool)
 own:w.ownsRow gb 3 1 ov q.length (intsV q)
 len:bs.length=l.length
 cnt:q.length+bs.count false≤l.length+1
 hg:g<gb
 hR:gb<R
 ne:¬ov.ownBlock=some R
abbrev KW (R gb:Nat) (ov:Value) (w w':World):Prop:=Kp (fun b=>b=R∨b=gb∨ov.ownBlock=some b) w w'
def ReachPostV (w:World) (R g cap gb:Nat) (l:List In) (ov:Value) (bs:List Bool) (q:List Nat) (j:Nat) (e:Ending) (w':World):Prop :=
 e=.returned (.tuple #[])∧((bs[j]? = some true∧w'=w)∨(bs[j]? = some false∧∃ov',WS w' R g cap gb l ov' (bs.set j true) (q++[j])∧Kp (fun b=>gb≤b) w w'))
theorem reach_any (R g cap gb j:Nat) (l:List In) (ov:Value) (bs:List Bool) (q:List Nat) (w:World) (h:WS w R g cap gb l ov bs q) (hj:j<l.length) (hn:l.length≤1000) :
  Calls Tryz.prog 80 #[.pointer (some ⟨R,0,none⟩),.int .i64 j] w (ReachPostV w R g cap gb l ov bs q j):=by
 have H:Hid (WS w R g cap gb l ov bs q):=h
 obtain ⟨⟨c0,c1,c2,fz⟩,hcode,hrow,hown,hlen,hcnt,hg,hR,hne⟩:=h
 have hl:R<w.heap.size:=H.out.wk.lt
 obtain ⟨i1,hi1,hy0,hy1,hy2⟩:=info_parts Tryz.info3
 obtain ⟨b,hb⟩:∃b,bs[j]? = some b:=⟨bs[j]'(by rw [hlen];exact hj),by simp [hlen,hj]⟩
 have cb:w.cell? ⟨gb,j,none⟩=some (.bool b):=by rw [hrow.cell];simp [hb]
 have fb:∀o,w.frozen? ⟨gb,o,none⟩=false:=hrow.froz
 have hRg:¬R=gb:=by omega
 have hRg':¬gb=R:=by omega
 have HB:Hid (bs[j]? = some b):=hb
 clear hb hcode hrow
 cases b with
 | true =>
  go_enter Tryz.func80,Tryz.ntmps80
  go_wp2
  go_end0
  exact ⟨rfl,Or.inl ⟨HB.out,rfl⟩⟩
 | false =>
  have ks:Kp (fun b=>b=gb) w (w.setCell ⟨gb,j,none⟩ (.bool true)):=(Kp.refl (fun b=>b=gb) w).setCell (p:=⟨gb,j,none⟩) (Or.inr rfl) _
  have hrow':=owns_row_ne hown H.out.row (by decide)
  have O1:Hid ((w.setCell ⟨gb,j,none⟩ (.bool true)).ownsRow gb 3 1 ov q.length (intsV q)):=owns_kp hown ks (by intro b hb e;subst e;exact hrow' hb.symm)
  have KS:Hid (Kp (fun b=>b=gb) w (w.setCell ⟨gb,j,none⟩ (.bool true))):=ks
  have HRW:Hid (¬some gb=ov.ownBlock):=hrow'
  clear ks hown hrow'
  go_enter Tryz.func80,Tryz.ntmps80
  go_wp2_with (at_builtin;refine wpList_append_lies _ rfl _ _ 22 rfl gb 3 i1 (.int .i64 0) 1 8 Tryz.underlying22 hi1 hy0 hy1 hy2 rfl (by decide) _ _ _ rfl (O1.out.alloc _) ⟨w.heap.size,0,none⟩ 1 1 [.int .i64 (j:Int)] rfl rfl ?c1 ?c2 (by decide) ?c3 ?c4 ?c5 _ rfl ?_)
  case c1=>exact news_one _ (by simp) _ _
  case c2=>exact intsV_one [j]
  case c3=>unfold maxLen;omega
  case c4=>omega
  case c5=>simp;omega
  intro g3 cap3 w3 hown3 hgrow hat hlt
  have kg:Kp (fun b=>b=gb∨ov.ownBlock=some b) w w3:=((KS.out.mono (fun _ _ e=>Or.inl e)).alloc _).grown hgrow (by intro b hb;exact Or.inr (Or.inr hb))
  have hnS:¬(R=gb∨ov.ownBlock=some R):=by
   rintro (e|e)
   ·exact hRg e
   ·exact hne e
  have wk3:Wk w3 R (.slice (some ⟨g,0,none⟩) l.length cap) (.slice (some ⟨gb,0,none⟩) l.length l.length) ov:=H.out.wk.sm (kg.sm hl hnS)
  have hg3:¬g3=R:=by
   rcases hat with e|e
   ·intro e2;subst e2;exact hne e
   ·have:w.heap.size≤g3:=by rw [e];simp
    omega
  have hge:∀b,ov.ownBlock=some b→gb≤b:=by
   intro b hb
   rcases H.out.own.2 with ⟨e1,_⟩ | ⟨g',cap',cur,e1,e2,_⟩
   ·rw [e1] at hb;simp [Value.ownBlock] at hb
   ·rw [e1] at hb;simp [Value.ownBlock] at hb;omega
  have R3:Hid (Row w3 gb 4 ((bs.set j true).map bool)):=by
   have:=((H.out.row.set j (.bool true)).alloc (.cells #[.int .i64 (j:Int)] 3)).grown hgrow HRW.out
   show Row _ _ _ _
   rw [List.map_set];exact this
  have C3:Hid (Code' w3 g l):=H.out.code.kp kg (by
   rintro (e|e)
   ·omega
   ·have:=hge g e;omega)
  have O3:Hid (w3.ownsRow gb 3 1 (.slice (some ⟨g3,0,none⟩) (q.length+1) cap3) (q++[j]).length (intsV (q++[j]))):=by
   have e1:(q++[j]).length=q.length+1:=by simp
   have e2:intsV (q++[j])=intsV q++[.int .i64 (j:Int)]:=by simp [intsV]
   show w3.ownsRow _ _ _ _ _ _
   rw [e1,e2];exact hown3
  have K3:Hid (Kp (fun b=>gb≤b) w w3):=kg.mono (by
   rintro b _ (e|e)
   ·omega
   ·exact hge b e)
  have W3:Hid (Wk w3 R (.slice (some ⟨g,0,none⟩) l.length cap) (.slice (some ⟨gb,0,none⟩) l.length l.length) ov):=wk3
  obtain ⟨c0',c1',c2',fz'⟩:=wk3
  clear kg hown3 hgrow hat c0 c1 c2 fz cb fb
  go_wp2
  go_end0
  have kR:Kp (fun b=>b=R) w3 (w3.setCell ⟨R,2,none⟩ (.slice (some ⟨g3,0,none⟩) (q.length+1) cap3)):=(Kp.refl (fun b=>b=R) w3).setCell (p:=⟨R,2,none⟩) (Or.inr rfl) _
  refine ⟨rfl,Or.inr ⟨HB.out,.slice (some ⟨g3,0,none⟩) (q.length+1) cap3,?_,?_⟩⟩
  ·refine ⟨W3.out.set2 _,C3.out.kp kR (by intro e;omega),R3.out.kp kR (fun e=>hRg e.symm),owns_kp O3.out kR (by intro b hb e;simp [Value.ownBlock] at hb;exact hg3 (by omega)),by simp [hlen],?_,hg,hR,by simpa [Value.ownBlock] using hg3⟩
   have:=count_set HB.out
   simp;omega
  ·exact K3.out.setCell (p:=⟨R,2,none⟩) (Or.inr (by show gb≤R;omega)) _
end Go.Proofs.YtcboiapggnmpfaaGreatDoor
