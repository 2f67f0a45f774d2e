import Derived.Test.YtcboiapggnmpfabGreatDoorRows
import Derived.WalkKit
import Derived.WalkSpells
import Derived.WalkLawsBesides
import Derived.Deep.Light
import Derived.Deep.QuietTactic
import Derived.BigQuiet
import Derived.Deep.RegionWith
import Derived.Deep.RegionHeld3
import Derived.Test.YtcboiapggnmpfabGreatDoorQaa
import Derived.Deep.LoopGhost
namespace Go.Proofs.YtcboiapggnmpfabGreatDoor
set_option maxHeartbeats 2000000
set_option linter.unusedSimpArgs false
set_option linter.unusedVariables false
open Go.RowKit
structure Kp (S:Nat→Prop) (w w':World):Prop where
 os:w'.os=w.os
 tape:w'.tape=w.tape
 output:w'.output=w.output
 size:w.heap.size≤w'.heap.size
 block:∀k,k<w.heap.size→¬S k→w'.heap[k]? = w.heap[k]?
theorem Kp.refl (S:Nat→Prop) (w:World):Kp S w w:=⟨rfl,rfl,rfl,Nat.le_refl _,fun _ _ _=>rfl⟩
theorem Kp.trans {S:Nat→Prop} {a b c:World} (h:Kp S a b) (k:Kp S b c):Kp S a c :=
 ⟨k.os.trans h.os,k.tape.trans h.tape,k.output.trans h.output,Nat.le_trans h.size k.size,fun i hi hs=>(k.block i (Nat.lt_of_lt_of_le hi h.size) hs).trans (h.block i hi hs)⟩
theorem Kp.trans' {S T:Nat→Prop} {a b c:World} (h:Kp S a b) (k:Kp T b c) (hT:∀i,i<a.heap.size→T i→S i):Kp S a c :=
 ⟨k.os.trans h.os,k.tape.trans h.tape,k.output.trans h.output,Nat.le_trans h.size k.size,fun i hi hs=>(k.block i (Nat.lt_of_lt_of_le hi h.size) (fun t=>hs (hT i hi t))).trans (h.block i hi hs)⟩
theorem Kp.mono {S T:Nat→Prop} {a b:World} (h:Kp S a b) (hT:∀i,i<a.heap.size→S i→T i):Kp T a b :=
 ⟨h.os,h.tape,h.output,h.size,fun i hi hs=>h.block i hi (fun s=>hs (hT i hi s))⟩
theorem Kp.drew {S:Nat→Prop} {a w:World} (h:Kp S a w):Kp S a w.drew:=⟨h.os,h.tape,h.output,h.size,h.block⟩
theorem Kp.drewN {S:Nat→Prop} {a w:World} (h:Kp S a w) (n:Nat):Kp S a (w.drewN n):=⟨h.os,h.tape,h.output,h.size,h.block⟩
theorem Kp.alloc {S:Nat→Prop} {a w:World} (h:Kp S a w) (o:Obj):Kp S a (w.alloc o) :=
 ⟨h.os,h.tape,h.output,Nat.le_trans h.size (by simp),fun k hk hs=>(Below.heap_alloc _ _ _ (Nat.lt_of_lt_of_le hk h.size)).trans (h.block k hk hs)⟩
theorem Kp.setCell {S:Nat→Prop} {a w:World} (h:Kp S a w) {p:Addr} (hp:a.heap.size≤p.block∨S p.block) (u:Value):Kp S a (w.setCell p u):=by
 refine ⟨h.os,h.tape,h.output,Nat.le_trans h.size (by simp [World.setCell]),fun k hk hs => ?_⟩
 refine (Below.heap_setCell _ _ _ _ ?_).trans (h.block k hk hs)
 intro e
 rcases hp with hp|hp
 ·omega
 ·exact hs (e ▸ hp)
theorem Kp.grown {S:Nat→Prop} {a w w':World} {row:Option Nat} (h:Kp S a w) (hg:w.grownBy w' row) (hr:∀k,row=some k→a.heap.size≤k∨S k):Kp S a w':=by
 refine ⟨hg.os.trans h.os,hg.tape.trans h.tape,hg.output.trans h.output,Nat.le_trans h.size hg.size,fun k hk hs => ?_⟩
 refine (hg.block k (Nat.lt_of_lt_of_le hk h.size) ?_).trans (h.block k hk hs)
 intro e
 rcases hr k e.symm with h' | h'
 ·omega
 ·exact hs h'
theorem Kp.cell {S:Nat→Prop} {w w':World} (h:Kp S w w') {p:Addr} (hp:p.block<w.heap.size) (hs:¬S p.block):w'.cell? p=w.cell? p:=World.cell?_of_block (w:=w) (h.block p.block hp hs)
theorem Kp.frozen {S:Nat→Prop} {w w':World} (h:Kp S w w') {p:Addr} (hp:p.block<w.heap.size) (hs:¬S p.block):w'.frozen? p=w.frozen? p:=World.frozen?_of_block (w:=w) (h.block p.block hp hs)
theorem Kp.toBelow {S:Nat→Prop} {w w':World} (h:Kp S w w') {B:Nat} (hB:B≤w.heap.size) (hS:∀k,S k→B≤k):Below B w w' :=
 ⟨h.os,h.tape,h.output,h.size,fun k hk=>h.block k (by omega) (fun s=>by have:=hS k s;omega)⟩
def bI (s:ByteArray):List Int:=s.data.toList.map fun b=>(b.toNat:Int)
theorem bI_length (s:ByteArray):(bI s).length=s.size:=by simp [bI]
theorem bI_drop (s:ByteArray) (k:Nat) (h:k<s.size):(bI s).drop k=(s[k].toNat:Int)::(bI s).drop (k+1):=by
 unfold bI
 rw [List.drop_eq_getElem_cons (by simpa using h)]
 simp
 rfl
theorem bI_drop_end (s:ByteArray):(bI s).drop s.size=[]:=by
 rw [List.drop_eq_nil_iff,bI_length];exact Nat.le_refl _
def schemaB (l:List Int):Bool:=l.all (fun c=>c == 48||c == 49||c == 50||c == 51)&&decide (0<l.length)&&decide (l.length≤4)
def kindO (c:Int):Int:=if isKindB c=true then kindV c else -1
def nameO (c:Int):Int:=if isNameB c=true then c - 65 else -1
def digitO (c:Int):Int:=if isDigitB c=true then c - 48 else -1
def fieldO (c:Int):Int:=if isFieldB c=true then fieldV c else -1
def relO (c:Int):Int:=if isRelB c=true then relV c else -1
theorem digitOf_any (c:Int) (w:World) (h0:0≤c) (h1:c≤255) :
  Calls Tryz.prog 87 #[.int .u8 c] w fun e w'=>e=.returned (.int .i64 (digitO c))∧w'=w:=by
 go_enter Tryz.func87,Tryz.ntmps87
 go_wp2
 all_goals
  go_ret
  refine ⟨?_,rfl⟩
  simp [digitO,isDigitB, *]
  try omega
theorem nameOf_any (c:Int) (w:World) (h0:0≤c) (h1:c≤255) :
  Calls Tryz.prog 126 #[.int .u8 c] w fun e w'=>e=.returned (.int .i64 (nameO c))∧w'=w:=by
 go_enter Tryz.func126,Tryz.ntmps126
 go_wp2
 all_goals
  go_ret
  refine ⟨?_,rfl⟩
  simp [nameO,isNameB, *]
  try omega
theorem kindOf_any (c:Int) (w:World) (h0:0≤c) (h1:c≤255) :
  Calls Tryz.prog 116 #[.int .u8 c] w fun e w'=>e=.returned (.int .i64 (kindO c))∧w'=w:=by
 by_cases h46:c=46
 ·subst h46
  go_enter Tryz.func116,Tryz.ntmps116
  go_wp2
  go_ret
  exact ⟨by simp [kindO,isKindB,kindV],rfl⟩
 ·have h46':(c == 46)=false:=by simp [h46]
  go_enter Tryz.func116,Tryz.ntmps116
  go_wp2
  all_goals
   go_ret
   refine ⟨?_,rfl⟩
   simp [kindO,isKindB,kindV,h46, *]
   try omega
theorem fieldOf_any (c:Int) (w:World) (h0:0≤c) (h1:c≤255) :
  Calls Tryz.prog 132 #[.int .u8 c] w fun e w'=>e=.returned (.int .i64 (fieldO c))∧w'=w:=by
 by_cases h1:c=116
 ·subst h1
  go_enter Tryz.func132,Tryz.ntmps132
  go_wp2
  go_ret
  exact ⟨by simp [fieldO,isFieldB,fieldV],rfl⟩
 by_cases h2:c=120
 ·subst h2
  go_enter Tryz.func132,Tryz.ntmps132
  go_wp2
  go_ret
  exact ⟨by simp [fieldO,isFieldB,fieldV],rfl⟩
 by_cases h3:c=121
 ·subst h3
  go_enter Tryz.func132,Tryz.ntmps132
  go_wp2
  go_ret
  exact ⟨by simp [fieldO,isFieldB,fieldV],rfl⟩
 by_cases h4:c=122
 ·subst h4
  go_enter Tryz.func132,Tryz.ntmps132
  go_wp2
  go_ret
  exact ⟨by simp [fieldO,isFieldB,fieldV],rfl⟩
 have g1:(c == 116)=false:=by simp [h1]
 have g2:(c == 120)=false:=by simp [h2]
 have g3:(c == 121)=false:=by simp [h3]
 have g4:(c == 122)=false:=by simp [h4]
 have hf:Hid (isFieldB c=false):=by
  show isFieldB c=false
  simp [isFieldB,h1];omega
 go_enter Tryz.func132,Tryz.ntmps132
 go_wp2
 go_ret
 exact ⟨by rw [fieldO,hf.out];simp,rfl⟩
theorem relOf_any (c:Int) (w:World) (h0:0≤c) (h1:c≤255) :
  Calls Tryz.prog 130 #[.int .u8 c] w fun e w'=>e=.returned (.int .i64 (relO c))∧w'=w:=by
 by_cases h1:c=60
 ·subst h1
  go_enter Tryz.func130,Tryz.ntmps130
  go_wp2
  go_ret
  exact ⟨by simp [relO,isRelB,relV],rfl⟩
 by_cases h2:c=62
 ·subst h2
  go_enter Tryz.func130,Tryz.ntmps130
  go_wp2
  go_ret
  exact ⟨by simp [relO,isRelB,relV],rfl⟩
 by_cases h3:c=61
 ·subst h3
  go_enter Tryz.func130,Tryz.ntmps130
  go_wp2
  go_ret
  exact ⟨by simp [relO,isRelB,relV],rfl⟩
 by_cases h4:c=35
 ·subst h4
  go_enter Tryz.func130,Tryz.ntmps130
  go_wp2
  go_ret
  exact ⟨by simp [relO,isRelB,relV],rfl⟩
 have g1:(c == 60)=false:=by simp [h1]
 have g2:(c == 62)=false:=by simp [h2]
 have g3:(c == 61)=false:=by simp [h3]
 have g4:(c == 35)=false:=by simp [h4]
 go_enter Tryz.func130,Tryz.ntmps130
 go_wp2
 go_ret
 exact ⟨by simp [relO,isRelB,g1,g2,g3,g4],rfl⟩
theorem arithOf_any (c:Int) (w:World) (h0:0≤c) (h1:c≤255) :
  Calls Tryz.prog 131 #[.int .u8 c] w fun e w'=>e=.returned (.int .i64 (arithV c))∧w'=w:=by
 by_cases h1:c=43
 ·subst h1
  go_enter Tryz.func131,Tryz.ntmps131
  go_wp2
  go_ret
  exact ⟨by simp [arithV],rfl⟩
 by_cases h2:c=45
 ·subst h2
  go_enter Tryz.func131,Tryz.ntmps131
  go_wp2
  go_ret
  exact ⟨by simp [arithV],rfl⟩
 by_cases h3:c=42
 ·subst h3
  go_enter Tryz.func131,Tryz.ntmps131
  go_wp2
  go_ret
  exact ⟨by simp [arithV],rfl⟩
 have g1:(c == 43)=false:=by simp [h1]
 have g2:(c == 45)=false:=by simp [h2]
 have g3:(c == 42)=false:=by simp [h3]
 go_enter Tryz.func131,Tryz.ntmps131
 go_wp2
 go_ret
 exact ⟨by simp [arithV,h1,h2,h3],rfl⟩
def beginsB (c:Int):Bool:=c == 40||isKindB c
theorem beginsAtom_any (c:Int) (w:World) (h0:0≤c) (h1:c≤255) :
  Calls Tryz.prog 104 #[.int .u8 c] w fun e w'=>e=.returned (.bool (beginsB c))∧w'=w:=by
 by_cases h40:c=40
 ·subst h40
  go_enter Tryz.func104,Tryz.ntmps104
  go_wp2_with (go_at_call 116;refine (kindOf_any _ _ (by omega) (by omega)).mono ?_;rintro e w1 ⟨rfl,rfl⟩)
  go_ret
  exact ⟨by simp [beginsB],rfl⟩
 ·have g1:(c == 40)=false:=by simp [h40]
  have hk:Hid (decide (0≤kindO c)=isKindB c):=by
   show decide (0≤kindO c)=isKindB c
   cases hb:isKindB c with
   | false=>simp [kindO,hb]
   | true =>
    have:c=46∨(97≤c∧c≤100):=by simpa [isKindB] using hb
    simp only [kindO,hb,kindV]
    rcases this with h|h
    ·simp [h]
    ·have:¬c=46:=by omega
     simp [this];omega
  go_enter Tryz.func104,Tryz.ntmps104
  go_wp2_with (go_at_call 116;refine (kindOf_any _ _ (by omega) (by omega)).mono ?_;rintro e w1 ⟨rfl,rfl⟩)
  go_ret
  refine ⟨?_,rfl⟩
  simp only [beginsB,g1,←hk.out]
  simp
structure Rd (w:World) (R:Nat) (s:ByteArray) (i:Nat) (nv sv:Value):Prop where
 c0:w.cell? ⟨R,0,none⟩=some (.string s)
 c1:w.cell? ⟨R,1,none⟩=some (.int .i64 i)
 c2:w.cell? ⟨R,2,none⟩=some nv
 c3:w.cell? ⟨R,3,none⟩=some sv
 z1:w.frozen? ⟨R,1,none⟩=false
 z2:w.frozen? ⟨R,2,none⟩=false
 z3:w.frozen? ⟨R,3,none⟩=false
theorem peek_in (s:ByteArray) (R i:Nat) (nv sv:Value) (w:World) (h:Rd w R s i nv sv) (hs:s.size≤maxLen) (hi:i<s.size) :
  Calls Tryz.prog 56 #[.pointer (some ⟨R,0,none⟩)] w fun e w'=>e=.returned (.int .u8 (s[i].toNat:Int))∧∃n,w'=w.drewN n:=by
 obtain ⟨c0,c1,c2,c3,z1,z2,z3⟩:=h
 unfold maxLen at hs
 have i0:(0:Int)≤(i:Int):=by omega
 have i1:(i:Int)<(s.size:Int):=by omega
 clear c2 c3 z1 z2 z3
 go_enter Tryz.func56,Tryz.ntmps56
 go_wp2
 go_quiet (fail)
 go_wp2
 go_quiet (fail)
 go_wp2
 go_ret
 refine ⟨rfl,?_⟩
 exact ⟨_,World.drewN_drewN _ _ _⟩
theorem peek_end (s:ByteArray) (R i:Nat) (nv sv:Value) (w:World) (h:Rd w R s i nv sv) (hs:s.size≤maxLen) (hi:s.size≤i) :
  Calls Tryz.prog 56 #[.pointer (some ⟨R,0,none⟩)] w fun e w'=>e=.returned (.int .u8 0)∧∃n,w'=w.drewN n:=by
 obtain ⟨c0,c1,c2,c3,z1,z2,z3⟩:=h
 unfold maxLen at hs
 have i0:(0:Int)≤(i:Int):=by omega
 have i1:(s.size:Int)≤(i:Int):=by omega
 clear c2 c3 z1 z2 z3
 go_enter Tryz.func56,Tryz.ntmps56
 go_wp2
 go_quiet (fail)
 go_wp2
 go_ret
 refine ⟨rfl,?_⟩
 exact ⟨_,rfl⟩
theorem Rd.drewN {w:World} {R:Nat} {s:ByteArray} {i:Nat} {nv sv:Value} (h:Rd w R s i nv sv) (n:Nat):Rd (w.drewN n) R s i nv sv :=
 ⟨h.c0,h.c1,h.c2,h.c3,h.z1,h.z2,h.z3⟩
theorem Rd.set {w:World} {R:Nat} {s:ByteArray} {i:Nat} {nv sv:Value} (h:Rd w R s i nv sv) (j:Nat):Rd (w.setCell ⟨R,1,none⟩ (.int .i64 j)) R s j nv sv:=by
 obtain ⟨c0,c1,c2,c3,z1,z2,z3⟩:=h
 constructor <;> simp [go_sem,c0,c1,c2,c3,z1,z2,z3]
theorem passBlanks_any (s:ByteArray) (R i:Nat) (nv sv:Value) (w:World) (h:Rd w R s i nv sv) (hs:s.size≤maxLen) (hi:i≤s.size) :
  Calls Tryz.prog 54 #[.pointer (some ⟨R,0,none⟩)] w fun e w'=>e=.returned (.tuple #[])∧∃j:Nat,i≤j∧j≤s.size∧toks i ((bI s).drop i)=toks j ((bI s).drop j)∧(∀h:j<s.size,¬(s[j].toNat:Int)=32)∧Rd w' R s j nv sv∧Kp (fun k=>k=R) w w':=by
 unfold maxLen at hs
 go_enter Tryz.func54,Tryz.ntmps54
 go_wp2
 go_loopg [] (s.size - i) (fun g wr=>∃j:Nat,i≤j∧j≤s.size∧g=s.size - j∧toks i ((bI s).drop i)=toks j ((bI s).drop j)∧Rd wr R s j nv sv∧Kp (fun k=>k=R) w wr)
 case atStart=>exact ⟨i,Nat.le_refl _,hi,rfl,rfl,h,Kp.refl _ _⟩
 case round =>
  obtain ⟨j,h1,h2,h3,h4,h5,h6⟩:=hrel
  have H3:Hid _:=h3
  have H4:Hid _:=h4
  have H5:Hid _:=h5
  have H6:Hid _:=h6
  clear h3 h4 h6
  obtain ⟨c0,c1,c2,c3,z1,z2,z3⟩:=h5
  clear c2 c3 z2 z3 h
  have i0:(0:Int)≤(j:Int):=by omega
  by_cases hlt:j<s.size
  ·have i1:(j:Int)<(s.size:Int):=by omega
   by_cases h32:(s[j].toNat:Int)=32
   ·have h32':((s[j].toNat:Int) == 32)=true:=by simp [h32]
    go_wp2
    go_quiet (fail)
    go_wp2
    go_roundg (s.size - (j+1))
    case measure=>have:=H3.out;omega
    case rel =>
     refine ⟨j+1,by omega,by omega,rfl,?_,?_,?_⟩
     ·rw [H4.out,bI_drop s j hlt];simp [toks,h32]
     ·exact (H5.out.drewN _).set (j+1)
     ·exact (H6.out.drewN _).setCell (Or.inr rfl) _
   ·have h32':((s[j].toNat:Int) == 32)=false:=by simp [h32]
    go_wp2
    go_quiet (fail)
    go_wp2
    go_end0
    exact ⟨rfl,j,h1,h2,H4.out,fun _=>h32,H5.out.drewN _,H6.out.drewN _⟩
  ·have i1:(s.size:Int)≤(j:Int):=by omega
   have hd:decide ((j:Int)<(s.size:Int))=false:=by simp;omega
   go_wp2
   go_quiet (fail)
   go_wp2
   go_end0
   exact ⟨rfl,j,h1,h2,H4.out,fun h=>absurd h hlt,H5.out.drewN _,H6.out.drewN _⟩
def At (s:ByteArray) (i:Nat) (l:List Tok):Prop:=i≤s.size∧l=toks i ((bI s).drop i)∧∀h:i<s.size,¬(s[i].toNat:Int)=32
theorem At.nil {s:ByteArray} {i:Nat} (h:At s i []):i=s.size:=by
 obtain ⟨h1,h2,h3⟩:=h
 by_cases hlt:i<s.size
 ·rw [bI_drop s i hlt] at h2;simp [toks,h3 hlt] at h2
 ·omega
theorem At.cons {s:ByteArray} {i:Nat} {c:Int} {p:Nat} {l:List Tok} (h:At s i ((c,p)::l)):∃h:i<s.size,c=(s[i].toNat:Int)∧p=i∧l=toks (i+1) ((bI s).drop (i+1)):=by
 obtain ⟨h1,h2,h3⟩:=h
 by_cases hlt:i<s.size
 ·rw [bI_drop s i hlt] at h2
  simp [toks,h3 hlt] at h2
  exact ⟨hlt,h2.1.1,h2.1.2,h2.2⟩
 ·have:i=s.size:=by omega
  subst this
  rw [bI_drop_end] at h2
  simp [toks] at h2
theorem pass_any (s:ByteArray) (R i:Nat) (nv sv:Value) (c:Int) (p:Nat) (l:List Tok) (w:World) (h:Rd w R s i nv sv) (hs:s.size≤maxLen) (ha:At s i ((c,p)::l)) :
  Calls Tryz.prog 57 #[.pointer (some ⟨R,0,none⟩)] w fun e w'=>e=.returned (.tuple #[])∧∃j:Nat,At s j l∧Rd w' R s j nv sv∧Kp (fun k=>k=R) w w':=by
 obtain ⟨hlt,_,_,hl⟩:=ha.cons
 have HL:Hid _:=hl
 clear hl ha
 have H:Hid _:=h
 obtain ⟨c0,c1,c2,c3,z1,z2,z3⟩:=h
 have hs':=hs
 unfold maxLen at hs'
 go_enter Tryz.func57,Tryz.ntmps57
 go_wp2_with (go_at_call 54;refine (passBlanks_any s R (i+1) nv sv _ ?_ hs (by omega)).mono ?_;exact H.out.set (i+1);rintro e w1 ⟨rfl,j,h1,h2,h3,h4,h5,h6⟩)
 go_end0
 exact ⟨rfl,j,⟨h2,by rw [HL.out,h3],h4⟩,h5,((Kp.refl (fun k=>k=R) w).setCell (p:=⟨R,1,none⟩) (Or.inr rfl) _).trans h6⟩
def hd:List Tok→Int
 | []=>0
 | (c,_)::_=>c
theorem At.hd_bounds {s:ByteArray} {i:Nat} {l:List Tok} (h:At s i l):0≤hd l∧hd l≤255:=by
 match l,h with
 | [],_=>simp [hd]
 | (c,p)::r,h =>
  obtain ⟨hlt,hc,_,_⟩:=h.cons
  have:=UInt8.toNat_lt s[i]
  simp only [hd];omega
theorem peek_at {s:ByteArray} {R i:Nat} {nv sv:Value} {l:List Tok} {w:World} (h:Rd w R s i nv sv) (hs:s.size≤maxLen) (ha:At s i l) :
  Calls Tryz.prog 56 #[.pointer (some ⟨R,0,none⟩)] w fun e w'=>e=.returned (.int .u8 (hd l))∧∃n,w'=w.drewN n:=by
 match l,ha with
 | [],ha=>exact peek_end s R i nv sv w h hs (by rw [ha.nil];exact Nat.le_refl _)
 | (c,p)::r,ha =>
  obtain ⟨hlt,hc,_,_⟩:=ha.cons
  subst hc
  exact peek_in s R i nv sv w h hs hlt
theorem p10 (k:Nat) (h:k≤18):(10:Int) ^ k≤1000000000000000000:=by
 have:∀j:Fin 19,(10:Int) ^ (j:Nat)≤1000000000000000000:=by decide
 exact this ⟨k,by omega⟩
theorem digitO_of {c:Int} (h:isDigitB c=true):digitO c=c - 48:=by simp [digitO,h]
theorem digitO_not {c:Int} (h:isDigitB c=false):digitO c = -1:=by simp [digitO,h]
def RdPost (s:ByteArray) (R:Nat) (nv sv:Value) (w:World) (x:List Tok) (w':World):Prop :=
 ∃j:Nat,At s j x∧Rd w' R s j nv sv∧Kp (fun k=>k=R) w w'
theorem readNumber_any (s:ByteArray) (R i:Nat) (nv sv:Value) (l:List Tok) (w:World) (h:Rd w R s i nv sv) (hs:s.size≤maxLen) (ha:At s i l) :
  Calls Tryz.prog 58 #[.pointer (some ⟨R,0,none⟩)] w fun e w'=>∃v b,e=.returned (.tuple #[.int .i64 v,.bool b])∧(pNum 0 0 l).1=(if b=true then some v else none)∧RdPost s R nv sv w (pNum 0 0 l).2 w':=by
 go_enter Tryz.func58,Tryz.ntmps58
 go_wp2
 go_loopg [4,5] l.length (fun g a d wr=>∃(acc:Int) (k:Nat) (y:List Tok) (j:Nat),a=.int .i64 acc∧d=.int .i64 k∧g=y.length∧0≤acc∧acc<10 ^ k∧k≤18∧pNum 0 0 l=pNum acc k y∧At s j y∧Rd wr R s j nv sv∧Kp (fun k=>k=R) w wr)
 case atStart=>exact ⟨0,0,l,i,rfl,rfl,rfl,by omega,by simp,by omega,rfl,ha,h,Kp.refl _ _⟩
 case round =>
  obtain ⟨acc,k,y,j,rfl,rfl,hg,h1,h2,h3,h4,h5,h6,h7⟩:=hrel
  have HG:Hid _:=hg
  have H4:Hid _:=h4
  have H5:Hid (At s j y):=h5
  have H6:Hid _:=h6
  have H7:Hid _:=h7
  have H2:Hid _:=h2
  clear hg h4 h5 h6 h7 h2 h ha
  obtain ⟨b0,b1⟩:=H5.out.hd_bounds
  have H8:=H5.out
  generalize hc:hd y=c at b0 b1
  have HC:Hid _:=hc
  clear hc
  rcases Bool.eq_false_or_eq_true (isDigitB c) with hd' | hd'
  ·have hb:=isDigit_bounds hd'
   have HY:Hid (∃p r,y=(c,p)::r):=by
    show ∃p r,y=(c,p)::r
    have:=HC.out
    match y,this with
    | [],e=>simp only [hd] at e;omega
    | (d,p)::r,e=>exact ⟨p,r,by rw [←e];rfl⟩
   by_cases h18:k=18
   ·subst h18
    go_wp2_with (first
     | (go_at_call 56;refine (peek_at H6.out hs H5.out).mono ?_;rw [HC.out];rintro e w1 ⟨rfl,n1,rfl⟩)
     | (go_at_call 87;refine (digitOf_any _ _ (by omega) (by omega)).mono ?_;rw [digitO_of hd'];rintro e w1 ⟨rfl,rfl⟩))
    go_ret2
    obtain ⟨p,r,rfl⟩:=HY.out
    refine ⟨0,false,rfl,?_,?_⟩
    ·rw [H4.out];simp [pNum,hd']
    ·rw [H4.out];simp only [pNum,if_pos hd',if_pos rfl]
     exact ⟨j,H5.out,H6.out.drewN _,H7.out.drewN _⟩
   ·have hk18:((k:Int) == 18)=false:=by simp;omega
    have hp:=p10 (k+1) (by omega)
    have hq:(10:Int) ^ (k+1)=10 ^ k*10:=Int.pow_succ 10 k
    have h2':=H2.out
    have hacc:acc≤99999999999999999:=by omega
    have HP:Hid (10*acc+(c - 48)<10 ^ (k+1)):=by show _<_;omega
    clear hp hq h2'
    obtain ⟨p,r,rfl⟩:=HY.out
    clear H8
    go_wp2_with (first
     | (go_at_call 56;refine (peek_at (s:=s) (i:=j) (nv:=nv) (sv:=sv) (l:=(c,p)::r) ?_ hs H5.out).mono ?_;(first|exact H6.out|exact H6.out.drewN _);simp only [hd];rintro e w1 ⟨rfl,n1,rfl⟩)
     | (go_at_call 87;refine (digitOf_any _ _ (by omega) (by omega)).mono ?_;rw [digitO_of hd'];rintro e w1 ⟨rfl,rfl⟩)
     | (go_at_call 57;refine (pass_any s R j nv sv c p r _ ?_ hs H5.out).mono ?_;(first|exact H6.out.drewN _|exact (H6.out.drewN _).drewN _);rintro e w1 ⟨rfl,j1,q1,q2,q3⟩))
    go_roundg r.length
    case measure=>rw [HG.out];simp
    case rel =>
     refine ⟨10*acc+(c - 48),k+1,r,j1,rfl,by go_num,rfl,by omega,HP.out,by omega,?_,q1,q2,?_⟩
     ·rw [H4.out];simp [pNum,hd',h18]
     ·first|exact (H7.out.drewN _).trans q3|exact ((H7.out.drewN _).drewN _).trans q3
  ·go_wp2_with (first
     | (go_at_call 56;refine (peek_at H6.out hs H5.out).mono ?_;rw [HC.out];rintro e w1 ⟨rfl,n1,rfl⟩)
     | (go_at_call 87;refine (digitOf_any _ _ (by omega) (by omega)).mono ?_;rw [digitO_not hd'];rintro e w1 ⟨rfl,rfl⟩))
   go_ret2
   have hy:pNum acc k y=(if k=0 then none else some acc,y):=by
    have:=HC.out
    match y,this with
    | [],e=>simp [pNum]
    | (d,p)::r,e=>simp only [hd] at e;subst e;simp [pNum,hd']
   refine ⟨acc,decide (0<k),?_,?_,?_⟩
   ·simp
   ·rw [H4.out,hy]
    by_cases hk:k=0
    ·subst hk;rfl
    ·have:decide (0<k)=true:=by simp;omega
     simp [hk,this]
   ·rw [H4.out,hy]
    exact ⟨j,H5.out,H6.out.drewN _,H7.out.drewN _⟩
theorem Rd.lt {w:World} {R:Nat} {s:ByteArray} {i:Nat} {nv sv:Value} (h:Rd w R s i nv sv):R<w.heap.size:=World.block_lt_of_cell? w ⟨R,0,none⟩ h.c0
theorem Rd.alloc {w:World} {R:Nat} {s:ByteArray} {i:Nat} {nv sv:Value} (h:Rd w R s i nv sv) (o:Obj):Rd (w.alloc o) R s i nv sv:=by
 have hl:=h.lt
 obtain ⟨c0,c1,c2,c3,z1,z2,z3⟩:=h
 constructor <;> simp [go_sem,hl,World.cell?_alloc_past,World.frozen?_alloc_past, *]
theorem Rd.other {w:World} {R:Nat} {s:ByteArray} {i:Nat} {nv sv:Value} (h:Rd w R s i nv sv) {b o:Nat} (hb:¬b=R) (v:Value):Rd (w.setCell ⟨b,o,none⟩ v) R s i nv sv:=by
 have hb':¬R=b:=fun e=>hb e.symm
 obtain ⟨c0,c1,c2,c3,z1,z2,z3⟩:=h
 constructor <;> simp [go_sem,hb,hb', *]
theorem Kp.at {R B:Nat} {W w1:World} (h:Kp (fun k=>k=R) W w1) (hB:B<W.heap.size) (hne:¬B=R) :
  (∀o,w1.cell? ⟨B,o,none⟩=W.cell? ⟨B,o,none⟩)∧(∀o,w1.frozen? ⟨B,o,none⟩=W.frozen? ⟨B,o,none⟩)∧B<w1.heap.size :=
 ⟨fun o=>h.cell (p:=⟨B,o,none⟩) hB hne,fun o=>h.frozen (p:=⟨B,o,none⟩) hB hne,Nat.lt_of_lt_of_le hB h.size⟩
def TermPost (s:ByteArray) (R:Nat) (nv sv:Value) (w:World) (r:Option Tm×List Tok) (e:Ending) (w':World):Prop :=
 ∃a c d b,e=.returned (.tuple #[.agg #[.int .i64 a,.int .i64 c,.int .i64 d],.bool b])∧r.1=(if b=true then some ⟨a,c,d⟩ else none)∧RdPost s R nv sv w r.2 w'
theorem readTerm_num (s:ByteArray) (R i:Nat) (nv sv:Value) (l:List Tok) (w:World) (h:Rd w R s i nv sv) (hs:s.size≤maxLen) (ha:At s i l) (hd':isDigitB (hd l)=true) :
  Calls Tryz.prog 129 #[.pointer (some ⟨R,0,none⟩)] w (TermPost s R nv sv w (pTerm l)):=by
 have hl:=h.lt
 have hne:¬w.heap.size=R:=by omega
 obtain ⟨b0,b1⟩:=ha.hd_bounds
 have hb:=isDigit_bounds hd'
 have HT:Hid (pTerm l=match pNum 0 0 l with|(some v,x)=>(some ⟨0,0,v⟩,x)|(none,x)=>(none,x)):=by
  show pTerm l=_
  match l,hd' with
  | (c,p)::r,hd'=>simp only [hd] at hd';simp only [pTerm,if_pos hd'];rfl
 go_enter Tryz.func129,Tryz.ntmps129
 go_wp2_with (first
  | (go_at_call 56;refine (peek_at (s:=s) (i:=i) (nv:=nv) (sv:=sv) (l:=l) ?_ hs ha).mono ?_;exact h.alloc _;rintro e w1 ⟨rfl,n1,rfl⟩)
  | (go_at_call 87;refine (digitOf_any _ _ (by omega) (by omega)).mono ?_;rw [digitO_of hd'];rintro e w1 ⟨rfl,rfl⟩)
  | (go_at_call 58;refine (readNumber_any s R i nv sv l _ ?_ hs ha).mono ?_;exact (h.alloc _).drewN _;rintro e w1 ⟨v,b,rfl,hv,j,q1,q2,q3⟩;obtain ⟨f1,g1,s1⟩:=q3.at (B:=w.heap.size) (by simp) hne))
 refine bodyPost_ret (by simp [results,Tryz.results129,go_sem,f1];rfl) rfl ?_
 go_light
 refine ⟨_,_,_,_,rfl,?_,j,?_,?_,?_⟩
 ·rw [HT.out]
  revert hv
  generalize pNum 0 0 l=z
  obtain ⟨z1,z2⟩:=z
  intro hv
  simp only at hv
  subst hv
  cases b <;> rfl
 ·rw [HT.out]
  revert q1
  generalize pNum 0 0 l=z
  obtain ⟨z1,z2⟩:=z
  cases z1 <;> exact fun q1=>q1
 ·exact ((q2.other hne _).other hne _).other hne _
 ·exact ((((((Kp.refl (fun k=>k=R) w).alloc _).drewN _).trans q3).setCell (p:=⟨w.heap.size,0,none⟩) (Or.inl (Nat.le_refl _)) _).setCell (p:=⟨w.heap.size,1,none⟩) (Or.inl (Nat.le_refl _)) _).setCell (p:=⟨w.heap.size,2,none⟩) (Or.inl (Nat.le_refl _)) _
theorem nameO_of {c:Int} (h:isNameB c=true):nameO c=c - 65:=by simp [nameO,h]
theorem nameO_not {c:Int} (h:isNameB c=false):nameO c = -1:=by simp [nameO,h]
theorem fieldO_of {c:Int} (h:isFieldB c=true):fieldO c=fieldV c:=by simp [fieldO,h]
theorem fieldO_not {c:Int} (h:isFieldB c=false):fieldO c = -1:=by simp [fieldO,h]
theorem fieldV_bounds (c : Int) : 0 ≤ fieldV c ∧ fieldV c ≤ 3 := by unfold fieldV; split; · omega
                                                                    split; · omega
                                                                    split <;> omega
theorem isName_bounds {c:Int} (h:isNameB c=true):65≤c∧c≤90:=by simpa [isNameB] using h
theorem hd_cons_of {l:List Tok} {c:Int} (h:hd l=c) (h0:0<c):∃p r,l=(c,p)::r:=by
 match l,h with
 | [],e=>simp only [hd] at e;omega
 | (d,p)::r,e=>exact ⟨p,r,by rw [←e];rfl⟩
theorem pField_of {of:Int} {c:Int} {p:Nat} {r:List Tok} (h:isFieldB c=true):pField of ((c,p)::r)=(some ⟨of,fieldV c,0⟩,r):=by simp [pField,h]
theorem pField_not {of:Int} {l:List Tok} (h:isFieldB (hd l)=false):pField of l=(none,l):=by
 match l,h with
 | [],_=>rfl
 | (c,p)::r,h=>simp only [hd] at h;simp [pField,h]
theorem isField_bounds {c:Int} (h:isFieldB c=true):116≤c∧c≤122:=by
 have:c=116∨(120≤c∧c≤122):=by simpa [isFieldB] using h
 omega
theorem readTerm_own (s:ByteArray) (R i:Nat) (nv sv:Value) (l:List Tok) (w:World) (h:Rd w R s i nv sv) (hs:s.size≤maxLen) (ha:At s i l) (hd':isDigitB (hd l)=false) (hn':isNameB (hd l)=false) :
  Calls Tryz.prog 129 #[.pointer (some ⟨R,0,none⟩)] w (TermPost s R nv sv w (pTerm l)):=by
 have hl:=h.lt
 have hne:¬w.heap.size=R:=by omega
 obtain ⟨b0,b1⟩:=ha.hd_bounds
 have HT:Hid (pTerm l=pField 1 l):=by
  show pTerm l=_
  match l,hd',hn' with
  | [],_,_=>rfl
  | (c,p)::r,hd',hn'=>simp only [hd] at hd' hn';simp [pTerm,hd',hn']
 rcases Bool.eq_false_or_eq_true (isFieldB (hd l)) with hf|hf
 ·have hfb:=isField_bounds hf
  have hvb:=fieldV_bounds (hd l)
  obtain ⟨p,r,hlr⟩:=hd_cons_of (l:=l) rfl (by omega)
  generalize hc:hd l=c at *
  have HC:Hid (hd l=c):=hc
  clear hc
  go_enter Tryz.func129,Tryz.ntmps129
  have HLR:Hid (l=(c,p)::r):=hlr
  clear hlr
  go_wp2_with (first
   | (go_at_call 56;refine (peek_at (s:=s) (i:=i) (nv:=nv) (sv:=sv) (l:=l) ?_ hs ha).mono ?_;(first|exact h.alloc _|exact (h.alloc _).drewN _);rw [HC.out];rintro e w1 ⟨rfl,n1,rfl⟩)
   | (go_at_call 87;refine (digitOf_any _ _ (by omega) (by omega)).mono ?_;rw [digitO_not hd'];rintro e w1 ⟨rfl,rfl⟩)
   | (go_at_call 126;refine (nameOf_any _ _ (by omega) (by omega)).mono ?_;rw [nameO_not hn'];rintro e w1 ⟨rfl,rfl⟩)
   | (go_at_call 132;refine (fieldOf_any _ _ (by omega) (by omega)).mono ?_;rw [fieldO_of hf];rintro e w1 ⟨rfl,rfl⟩)
   | (go_at_call 57;refine (pass_any s R i nv sv c p r _ ?_ hs ?_).mono ?_;exact (h.alloc _).drewN _;(rw [←HLR.out];exact ha);rintro e w1 ⟨rfl,j,q1,q2,q3⟩;obtain ⟨f1,g1,s1⟩:=q3.at (B:=w.heap.size) (by simp) hne))
  refine bodyPost_ret (by simp [results,Tryz.results129,go_sem,f1];rfl) rfl ?_
  go_light
  rw [HT.out,HLR.out,pField_of hf]
  refine ⟨_,_,_,_,rfl,rfl,j,q1,?_,?_⟩
  ·exact ((q2.other hne _).other hne _).other hne _
  ·exact ((((((Kp.refl (fun k=>k=R) w).alloc _).drewN _).trans q3).setCell (p:=⟨w.heap.size,0,none⟩) (Or.inl (Nat.le_refl _)) _).setCell (p:=⟨w.heap.size,1,none⟩) (Or.inl (Nat.le_refl _)) _).setCell (p:=⟨w.heap.size,2,none⟩) (Or.inl (Nat.le_refl _)) _
 ·generalize hc:hd l=c at *
  have HC:Hid (hd l=c):=hc
  clear hc
  go_enter Tryz.func129,Tryz.ntmps129
  go_wp2_with (first
   | (go_at_call 56;refine (peek_at (s:=s) (i:=i) (nv:=nv) (sv:=sv) (l:=l) ?_ hs ha).mono ?_;(first|exact h.alloc _|exact (h.alloc _).drewN _);rw [HC.out];rintro e w1 ⟨rfl,n1,rfl⟩)
   | (go_at_call 87;refine (digitOf_any _ _ (by omega) (by omega)).mono ?_;rw [digitO_not hd'];rintro e w1 ⟨rfl,rfl⟩)
   | (go_at_call 126;refine (nameOf_any _ _ (by omega) (by omega)).mono ?_;rw [nameO_not hn'];rintro e w1 ⟨rfl,rfl⟩)
   | (go_at_call 132;refine (fieldOf_any _ _ (by omega) (by omega)).mono ?_;rw [fieldO_not hf];rintro e w1 ⟨rfl,rfl⟩))
  refine bodyPost_ret (by simp [results,Tryz.results129,go_sem];rfl) rfl ?_
  go_light
  rw [HT.out,pField_not (by rw [HC.out];exact hf)]
  refine ⟨_,_,_,_,rfl,rfl,i,ha,(((((h.alloc _).drewN _).other hne _).other hne _).other hne _),(((((Kp.refl (fun k=>k=R) w).alloc _).drewN _).setCell (p:=⟨w.heap.size,0,none⟩) (Or.inl (Nat.le_refl _)) _).setCell (p:=⟨w.heap.size,1,none⟩) (Or.inl (Nat.le_refl _)) _).setCell (p:=⟨w.heap.size,2,none⟩) (Or.inl (Nat.le_refl _)) _⟩
theorem hd_toks_bounds:∀(b:List Int),(∀c∈b,0≤c∧c≤255)→∀i,0≤hd (toks i b)∧hd (toks i b)≤255:=by
 intro b
 induction b with
 | nil=>intro _ i;simp [toks,hd]
 | cons c r ih =>
  intro h i
  simp only [toks]
  by_cases h32:c=32
  ·simp only [if_pos h32];exact ih (fun d hd=>h d (List.mem_cons_of_mem _ hd)) _
  ·simp only [if_neg h32,hd];exact h c (List.mem_cons_self)
theorem bI_bytes (s:ByteArray) (k:Nat):∀c∈(bI s).drop k,0≤c∧c≤255:=by
 intro c hc
 have:=List.mem_of_mem_drop hc
 simp only [bI,List.mem_map] at this
 obtain ⟨b,_,rfl⟩:=this
 have:=UInt8.toNat_lt b
 omega
theorem readTerm_named (s:ByteArray) (R i:Nat) (nv sv:Value) (l:List Tok) (w:World) (h:Rd w R s i nv sv) (hs:s.size≤maxLen) (ha:At s i l) (hd':isDigitB (hd l)=false) (hn':isNameB (hd l)=true) :
  Calls Tryz.prog 129 #[.pointer (some ⟨R,0,none⟩)] w (TermPost s R nv sv w (pTerm l)):=by
 have hl:=h.lt
 have hne:¬w.heap.size=R:=by omega
 obtain ⟨b0,b1⟩:=ha.hd_bounds
 have hnb:=isName_bounds hn'
 obtain ⟨p,r,hlr⟩:=hd_cons_of (l:=l) rfl (by omega)
 generalize hc:hd l=c at *
 have HC:Hid (hd l=c):=hc
 have HT:Hid (pTerm l=pField (2+(c - 65)) r):=by
  show pTerm l=_
  rw [hlr]
  simp [pTerm,hd',hn']
 have HLR:Hid (l=(c,p)::r):=hlr
 have hm:(c - 65 != -1)=true:=by simp;omega
 clear hc hlr
 rcases Bool.eq_false_or_eq_true (isFieldB (hd r)) with hf|hf
 ·have hfb:=isField_bounds hf
  have hvb:=fieldV_bounds (hd r)
  obtain ⟨p2,r2,hlr2⟩:=hd_cons_of (l:=r) rfl (by omega)
  generalize hc2:hd r=c2 at *
  have HC2:Hid (hd r=c2):=hc2
  have HLR2:Hid (r=(c2,p2)::r2):=hlr2
  clear hc2 hlr2
  go_enter Tryz.func129,Tryz.ntmps129
  go_wp2_with (first
   | (go_at_call 56;have hq:=Q1.out;refine (peek_at (s:=s) (i:=j) (nv:=nv) (sv:=sv) (l:=r) ?_ hs hq).mono ?_;(first|exact q2|exact q2.drewN _);rw [HC2.out];rintro e w1 ⟨rfl,n1,rfl⟩)
   | (go_at_call 132;refine (fieldOf_any _ _ (by omega) (by omega)).mono ?_;rw [fieldO_of hf];rintro e w1 ⟨rfl,rfl⟩)
   | (go_at_call 57;have hq:=Q1.out;rw [HLR2.out] at hq;refine (pass_any s R j nv sv c2 p2 r2 _ (q2.drewN _) hs hq).mono ?_;rintro e w2 ⟨rfl,j2,u1,u2,u3⟩;obtain ⟨f2,g2,s2⟩:=u3.at (B:=w.heap.size) (by simp;omega) hne;have U1:Hid (At s j2 r2):=u1;clear u1)
   | (go_at_call 56;refine (peek_at (s:=s) (i:=i) (nv:=nv) (sv:=sv) (l:=l) ?_ hs ha).mono ?_;(first|exact h.alloc _|exact (h.alloc _).drewN _);rw [HC.out];rintro e w1 ⟨rfl,n1,rfl⟩)
   | (go_at_call 87;refine (digitOf_any _ _ (by omega) (by omega)).mono ?_;rw [digitO_not hd'];rintro e w1 ⟨rfl,rfl⟩)
   | (go_at_call 126;refine (nameOf_any _ _ (by omega) (by omega)).mono ?_;rw [nameO_of hn'];rintro e w1 ⟨rfl,rfl⟩)
   | (go_at_call 57;refine (pass_any s R i nv sv c p r _ ?_ hs ?_).mono ?_;exact (h.alloc _).drewN _;(rw [←HLR.out];exact ha);rintro e w1 ⟨rfl,j,q1,q2,q3⟩;obtain ⟨f1,g1,s1⟩:=q3.at (B:=w.heap.size) (by simp) hne;have Q1:Hid (At s j r):=q1;clear q1))
  refine bodyPost_ret (by simp [results,Tryz.results129,go_sem,f1,f2];rfl) rfl ?_
  go_light
  rw [HT.out,HLR2.out,pField_of hf]
  refine ⟨_,_,_,_,rfl,rfl,j2,U1.out,?_,?_⟩
  ·exact ((u2.other hne _).other hne _).other hne _
  ·exact (((((((((Kp.refl (fun k=>k=R) w).alloc _).drewN _).trans q3).drewN _).trans u3).setCell (p:=⟨w.heap.size,0,none⟩) (Or.inl (Nat.le_refl _)) _).setCell (p:=⟨w.heap.size,1,none⟩) (Or.inl (Nat.le_refl _)) _).setCell (p:=⟨w.heap.size,2,none⟩) (Or.inl (Nat.le_refl _)) _)
 ·have hb2:0≤hd r∧hd r≤255:=by
   obtain ⟨hlt,_,_,hr⟩:=(by rw [←HLR.out];exact ha:At s i ((c,p)::r)).cons
   rw [hr]
   exact hd_toks_bounds _ (bI_bytes s _) _
  obtain ⟨b2,b3⟩:=hb2
  generalize hc2:hd r=c2 at *
  have HC2:Hid (hd r=c2):=hc2
  clear hc2
  go_enter Tryz.func129,Tryz.ntmps129
  go_wp2_with (first
   | (go_at_call 56;have hq:=Q1.out;refine (peek_at (s:=s) (i:=j) (nv:=nv) (sv:=sv) (l:=r) ?_ hs hq).mono ?_;(first|exact q2|exact q2.drewN _);rw [HC2.out];rintro e w1 ⟨rfl,n1,rfl⟩)
   | (go_at_call 132;refine (fieldOf_any _ _ (by omega) (by omega)).mono ?_;rw [fieldO_not hf];rintro e w1 ⟨rfl,rfl⟩)
   | (go_at_call 56;refine (peek_at (s:=s) (i:=i) (nv:=nv) (sv:=sv) (l:=l) ?_ hs ha).mono ?_;(first|exact h.alloc _|exact (h.alloc _).drewN _);rw [HC.out];rintro e w1 ⟨rfl,n1,rfl⟩)
   | (go_at_call 87;refine (digitOf_any _ _ (by omega) (by omega)).mono ?_;rw [digitO_not hd'];rintro e w1 ⟨rfl,rfl⟩)
   | (go_at_call 126;refine (nameOf_any _ _ (by omega) (by omega)).mono ?_;rw [nameO_of hn'];rintro e w1 ⟨rfl,rfl⟩)
   | (go_at_call 57;refine (pass_any s R i nv sv c p r _ ?_ hs ?_).mono ?_;exact (h.alloc _).drewN _;(rw [←HLR.out];exact ha);rintro e w1 ⟨rfl,j,q1,q2,q3⟩;obtain ⟨f1,g1,s1⟩:=q3.at (B:=w.heap.size) (by simp) hne;have Q1:Hid (At s j r):=q1;clear q1))
  refine bodyPost_ret (by simp [results,Tryz.results129,go_sem,f1];rfl) rfl ?_
  go_light
  rw [HT.out,pField_not (by rw [HC2.out];exact hf)]
  refine ⟨_,_,_,_,rfl,rfl,j,Q1.out,?_,?_⟩
  ·exact (((q2.drewN _).other hne _).other hne _).other hne _
  ·exact ((((((((Kp.refl (fun k=>k=R) w).alloc _).drewN _).trans q3).drewN _).setCell (p:=⟨w.heap.size,0,none⟩) (Or.inl (Nat.le_refl _)) _).setCell (p:=⟨w.heap.size,1,none⟩) (Or.inl (Nat.le_refl _)) _).setCell (p:=⟨w.heap.size,2,none⟩) (Or.inl (Nat.le_refl _)) _)
theorem readTerm_any (s:ByteArray) (R i:Nat) (nv sv:Value) (l:List Tok) (w:World) (h:Rd w R s i nv sv) (hs:s.size≤maxLen) (ha:At s i l) :
  Calls Tryz.prog 129 #[.pointer (some ⟨R,0,none⟩)] w (TermPost s R nv sv w (pTerm l)):=by
 rcases Bool.eq_false_or_eq_true (isDigitB (hd l)) with hd' | hd'
 ·exact readTerm_num s R i nv sv l w h hs ha hd'
 ·rcases Bool.eq_false_or_eq_true (isNameB (hd l)) with hn' | hn'
  ·exact readTerm_named s R i nv sv l w h hs ha hd' hn'
  ·exact readTerm_own s R i nv sv l w h hs ha hd' hn'
end Go.Proofs.YtcboiapggnmpfabGreatDoor
