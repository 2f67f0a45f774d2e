import Derived.Test.YtcboiapggnmpfaaGreatDoorRows
import Derived.WalkKit
import Derived.WalkSpells
import Derived.WalkLawsBesides
import Derived.Deep.Light
import Derived.Deep.QuietTactic
import Derived.BigQuiet
import Derived.Deep.RegionWith
import Derived.Deep.RegionHeld3
import Derived.Test.YtcboiapggnmpfaaGreatDoorQaa
import Derived.Deep.LoopGhost
namespace Go.Proofs.YtcboiapggnmpfaaGreatDoor
set_option maxHeartbeats 1000000
set_option linter.unusedSimpArgs false
set_option linter.unusedVariables false
open Go.RowKit
structure Kp (S:Nat→Prop) (w w':World):Prop where
 os:w'.os=w.os
 tape:w'.tape=w.tape
 output:w'.output=w.output
 size:w.heap.size≤w'.heap.size
 block:∀k,k<w.heap.size→¬S k→w'.heap[k]? = w.heap[k]?
theorem Kp.refl (S:Nat→Prop) (w:World):Kp S w w:=⟨rfl,rfl,rfl,Nat.le_refl _,fun _ _ _=>rfl⟩
theorem Kp.trans {S:Nat→Prop} {a b c:World} (h:Kp S a b) (k:Kp S b c):Kp S a c :=
 ⟨k.os.trans h.os,k.tape.trans h.tape,k.output.trans h.output,Nat.le_trans h.size k.size,fun i hi hs=>(k.block i (Nat.lt_of_lt_of_le hi h.size) hs).trans (h.block i hi hs)⟩
theorem Kp.trans' {S T:Nat→Prop} {a b c:World} (h:Kp S a b) (k:Kp T b c) (hT:∀i,i<a.heap.size→T i→S i):Kp S a c :=
 ⟨k.os.trans h.os,k.tape.trans h.tape,k.output.trans h.output,Nat.le_trans h.size k.size,fun i hi hs=>(k.block i (Nat.lt_of_lt_of_le hi h.size) (fun t=>hs (hT i hi t))).trans (h.block i hi hs)⟩
theorem Kp.mono {S T:Nat→Prop} {a b:World} (h:Kp S a b) (hT:∀i,i<a.heap.size→S i→T i):Kp T a b :=
 ⟨h.os,h.tape,h.output,h.size,fun i hi hs=>h.block i hi (fun s=>hs (hT i hi s))⟩
theorem Kp.drew {S:Nat→Prop} {a w:World} (h:Kp S a w):Kp S a w.drew:=⟨h.os,h.tape,h.output,h.size,h.block⟩
theorem Kp.drewN {S:Nat→Prop} {a w:World} (h:Kp S a w) (n:Nat):Kp S a (w.drewN n):=⟨h.os,h.tape,h.output,h.size,h.block⟩
theorem Kp.alloc {S:Nat→Prop} {a w:World} (h:Kp S a w) (o:Obj):Kp S a (w.alloc o) :=
 ⟨h.os,h.tape,h.output,Nat.le_trans h.size (by simp),fun k hk hs=>(Below.heap_alloc _ _ _ (Nat.lt_of_lt_of_le hk h.size)).trans (h.block k hk hs)⟩
theorem Kp.setCell {S:Nat→Prop} {a w:World} (h:Kp S a w) {p:Addr} (hp:a.heap.size≤p.block∨S p.block) (u:Value):Kp S a (w.setCell p u):=by
 refine ⟨h.os,h.tape,h.output,Nat.le_trans h.size (by simp [World.setCell]),fun k hk hs => ?_⟩
 refine (Below.heap_setCell _ _ _ _ ?_).trans (h.block k hk hs)
 intro e
 rcases hp with hp|hp
 ·omega
 ·exact hs (e ▸ hp)
theorem Kp.grown {S:Nat→Prop} {a w w':World} {row:Option Nat} (h:Kp S a w) (hg:w.grownBy w' row) (hr:∀k,row=some k→a.heap.size≤k∨S k):Kp S a w':=by
 refine ⟨hg.os.trans h.os,hg.tape.trans h.tape,hg.output.trans h.output,Nat.le_trans h.size hg.size,fun k hk hs => ?_⟩
 refine (hg.block k (Nat.lt_of_lt_of_le hk h.size) ?_).trans (h.block k hk hs)
 intro e
 rcases hr k e.symm with h' | h'
 ·omega
 ·exact hs h'
theorem Kp.cell {S:Nat→Prop} {w w':World} (h:Kp S w w') {p:Addr} (hp:p.block<w.heap.size) (hs:¬S p.block):w'.cell? p=w.cell? p:=World.cell?_of_block (w:=w) (h.block p.block hp hs)
theorem Kp.frozen {S:Nat→Prop} {w w':World} (h:Kp S w w') {p:Addr} (hp:p.block<w.heap.size) (hs:¬S p.block):w'.frozen? p=w.frozen? p:=World.frozen?_of_block (w:=w) (h.block p.block hp hs)
theorem Kp.toBelow {S:Nat→Prop} {w w':World} (h:Kp S w w') {B:Nat} (hB:B≤w.heap.size) (hS:∀k,S k→B≤k):Below B w w' :=
 ⟨h.os,h.tape,h.output,h.size,fun k hk=>h.block k (by omega) (fun s=>by have:=hS k s;omega)⟩
def bI (s:ByteArray):List Int:=s.data.toList.map fun b=>(b.toNat:Int)
theorem bI_length (s:ByteArray):(bI s).length=s.size:=by simp [bI]
theorem bI_drop (s:ByteArray) (k:Nat) (h:k<s.size):(bI s).drop k=(s[k].toNat:Int)::(bI s).drop (k+1):=by
 unfold bI
 rw [List.drop_eq_getElem_cons (by simpa using h)]
 simp
 rfl
theorem bI_drop_end (s:ByteArray):(bI s).drop s.size=[]:=by
 rw [List.drop_eq_nil_iff,bI_length];exact Nat.le_refl _
def schemaB (l:List Int):Bool:=l.all (fun c=>c == 48||c == 49||c == 50||c == 51)&&decide (0<l.length)&&decide (l.length≤4)
def kindO (c:Int):Int:=if isKindB c=true then kindV c else -1
def nameO (c:Int):Int:=if isNameB c=true then c - 65 else -1
def digitO (c:Int):Int:=if isDigitB c=true then c - 48 else -1
def fieldO (c:Int):Int:=if isFieldB c=true then fieldV c else -1
def relO (c:Int):Int:=if isRelB c=true then relV c else -1
theorem digitOf_any (c:Int) (w:World) (h0:0≤c) (h1:c≤255) :
  Calls Tryz.prog 90 #[.int .u8 c] w fun e w'=>e=.returned (.int .i64 (digitO c))∧w'=w:=by
 go_enter Tryz.func90,Tryz.ntmps90
 go_wp2
 all_goals
  go_ret
  refine ⟨?_,rfl⟩
  simp [digitO,isDigitB, *]
  try omega
theorem nameOf_any (c:Int) (w:World) (h0:0≤c) (h1:c≤255) :
  Calls Tryz.prog 129 #[.int .u8 c] w fun e w'=>e=.returned (.int .i64 (nameO c))∧w'=w:=by
 go_enter Tryz.func129,Tryz.ntmps129
 go_wp2
 all_goals
  go_ret
  refine ⟨?_,rfl⟩
  simp [nameO,isNameB, *]
  try omega
theorem kindOf_any (c:Int) (w:World) (h0:0≤c) (h1:c≤255) :
  Calls Tryz.prog 119 #[.int .u8 c] w fun e w'=>e=.returned (.int .i64 (kindO c))∧w'=w:=by
 by_cases h46:c=46
 ·subst h46
  go_enter Tryz.func119,Tryz.ntmps119
  go_wp2
  go_ret
  exact ⟨by simp [kindO,isKindB,kindV],rfl⟩
 ·have h46':(c == 46)=false:=by simp [h46]
  go_enter Tryz.func119,Tryz.ntmps119
  go_wp2
  all_goals
   go_ret
   refine ⟨?_,rfl⟩
   simp [kindO,isKindB,kindV,h46, *]
   try omega
theorem fieldOf_any (c:Int) (w:World) (h0:0≤c) (h1:c≤255) :
  Calls Tryz.prog 135 #[.int .u8 c] w fun e w'=>e=.returned (.int .i64 (fieldO c))∧w'=w:=by
 by_cases h1:c=116
 ·subst h1
  go_enter Tryz.func135,Tryz.ntmps135
  go_wp2
  go_ret
  exact ⟨by simp [fieldO,isFieldB,fieldV],rfl⟩
 by_cases h2:c=120
 ·subst h2
  go_enter Tryz.func135,Tryz.ntmps135
  go_wp2
  go_ret
  exact ⟨by simp [fieldO,isFieldB,fieldV],rfl⟩
 by_cases h3:c=121
 ·subst h3
  go_enter Tryz.func135,Tryz.ntmps135
  go_wp2
  go_ret
  exact ⟨by simp [fieldO,isFieldB,fieldV],rfl⟩
 by_cases h4:c=122
 ·subst h4
  go_enter Tryz.func135,Tryz.ntmps135
  go_wp2
  go_ret
  exact ⟨by simp [fieldO,isFieldB,fieldV],rfl⟩
 have g1:(c == 116)=false:=by simp [h1]
 have g2:(c == 120)=false:=by simp [h2]
 have g3:(c == 121)=false:=by simp [h3]
 have g4:(c == 122)=false:=by simp [h4]
 have hf:Hid (isFieldB c=false):=by
  show isFieldB c=false
  simp [isFieldB,h1];omega
 go_enter Tryz.func135,Tryz.ntmps135
 go_wp2
 go_ret
 exact ⟨by rw [fieldO,hf.out];simp,rfl⟩
theorem relOf_any (c:Int) (w:World) (h0:0≤c) (h1:c≤255) :
  Calls Tryz.prog 133 #[.int .u8 c] w fun e w'=>e=.returned (.int .i64 (relO c))∧w'=w:=by
 by_cases h1:c=60
 ·subst h1
  go_enter Tryz.func133,Tryz.ntmps133
  go_wp2
  go_ret
  exact ⟨by simp [relO,isRelB,relV],rfl⟩
 by_cases h2:c=62
 ·subst h2
  go_enter Tryz.func133,Tryz.ntmps133
  go_wp2
  go_ret
  exact ⟨by simp [relO,isRelB,relV],rfl⟩
 by_cases h3:c=61
 ·subst h3
  go_enter Tryz.func133,Tryz.ntmps133
  go_wp2
  go_ret
  exact ⟨by simp [relO,isRelB,relV],rfl⟩
 by_cases h4:c=35
 ·subst h4
  go_enter Tryz.func133,Tryz.ntmps133
  go_wp2
  go_ret
  exact ⟨by simp [relO,isRelB,relV],rfl⟩
 have g1:(c == 60)=false:=by simp [h1]
 have g2:(c == 62)=false:=by simp [h2]
 have g3:(c == 61)=false:=by simp [h3]
 have g4:(c == 35)=false:=by simp [h4]
 go_enter Tryz.func133,Tryz.ntmps133
 go_wp2
 go_ret
 exact ⟨by simp [relO,isRelB,g1,g2,g3,g4],rfl⟩
theorem arithOf_any (c:Int) (w:World) (h0:0≤c) (h1:c≤255) :
  Calls Tryz.prog 134 #[.int .u8 c] w fun e w'=>e=.returned (.int .i64 (arithV c))∧w'=w:=by
 by_cases h1:c=43
 ·subst h1
  go_enter Tryz.func134,Tryz.ntmps134
  go_wp2
  go_ret
  exact ⟨by simp [arithV],rfl⟩
 by_cases h2:c=45
 ·subst h2
  go_enter Tryz.func134,Tryz.ntmps134
  go_wp2
  go_ret
  exact ⟨by simp [arithV],rfl⟩
 by_cases h3:c=42
 ·subst h3
  go_enter Tryz.func134,Tryz.ntmps134
  go_wp2
  go_ret
  exact ⟨by simp [arithV],rfl⟩
 have g1:(c == 43)=false:=by simp [h1]
 have g2:(c == 45)=false:=by simp [h2]
 have g3:(c == 42)=false:=by simp [h3]
 go_enter Tryz.func134,Tryz.ntmps134
 go_wp2
 go_ret
 exact ⟨by simp [arithV,h1,h2,h3],rfl⟩
def beginsB (c:Int):Bool:=c == 40||isKindB c
theorem beginsAtom_any (c:Int) (w:World) (h0:0≤c) (h1:c≤255) :
  Calls Tryz.prog 107 #[.int .u8 c] w fun e w'=>e=.returned (.bool (beginsB c))∧w'=w:=by
 by_cases h40:c=40
 ·subst h40
  go_enter Tryz.func107,Tryz.ntmps107
  go_wp2_with (go_at_call 119;refine (kindOf_any _ _ (by omega) (by omega)).mono ?_;rintro e w1 ⟨rfl,rfl⟩)
  go_ret
  exact ⟨by simp [beginsB],rfl⟩
 ·have g1:(c == 40)=false:=by simp [h40]
  have hk:Hid (decide (0≤kindO c)=isKindB c):=by
   show decide (0≤kindO c)=isKindB c
   cases hb:isKindB c with
   | false=>simp [kindO,hb]
   | true =>
    have:c=46∨(97≤c∧c≤100):=by simpa [isKindB] using hb
    simp only [kindO,hb,kindV]
    rcases this with h|h
    ·simp [h]
    ·have:¬c=46:=by omega
     simp [this];omega
  go_enter Tryz.func107,Tryz.ntmps107
  go_wp2_with (go_at_call 119;refine (kindOf_any _ _ (by omega) (by omega)).mono ?_;rintro e w1 ⟨rfl,rfl⟩)
  go_ret
  refine ⟨?_,rfl⟩
  simp only [beginsB,g1,←hk.out]
  simp
structure Rd (w:World) (R:Nat) (s:ByteArray) (i:Nat) (nv sv:Value):Prop where
 c0:w.cell? ⟨R,0,none⟩=some (.string s)
 c1:w.cell? ⟨R,1,none⟩=some (.int .i64 i)
 c2:w.cell? ⟨R,2,none⟩=some nv
 c3:w.cell? ⟨R,3,none⟩=some sv
 z1:w.frozen? ⟨R,1,none⟩=false
 z2:w.frozen? ⟨R,2,none⟩=false
 z3:w.frozen? ⟨R,3,none⟩=false
theorem peek_in (s:ByteArray) (R i:Nat) (nv sv:Value) (w:World) (h:Rd w R s i nv sv) (hs:s.size≤maxLen) (hi:i<s.size) :
  Calls Tryz.prog 61 #[.pointer (some ⟨R,0,none⟩)] w fun e w'=>e=.returned (.int .u8 (s[i].toNat:Int))∧∃n,w'=w.drewN n:=by
 obtain ⟨c0,c1,c2,c3,z1,z2,z3⟩:=h
 unfold maxLen at hs
 have i0:(0:Int)≤(i:Int):=by omega
 have i1:(i:Int)<(s.size:Int):=by omega
 clear c2 c3 z1 z2 z3
 go_enter Tryz.func61,Tryz.ntmps61
 go_wp2
 go_quiet (fail)
 go_wp2
 go_quiet (fail)
 go_wp2
 go_ret
 refine ⟨rfl,?_⟩
 exact ⟨_,World.drewN_drewN _ _ _⟩
theorem peek_end (s:ByteArray) (R i:Nat) (nv sv:Value) (w:World) (h:Rd w R s i nv sv) (hs:s.size≤maxLen) (hi:s.size≤i) :
  Calls Tryz.prog 61 #[.pointer (some ⟨R,0,none⟩)] w fun e w'=>e=.returned (.int .u8 0)∧∃n,w'=w.drewN n:=by
 obtain ⟨c0,c1,c2,c3,z1,z2,z3⟩:=h
 unfold maxLen at hs
 have i0:(0:Int)≤(i:Int):=by omega
 have i1:(s.size:Int)≤(i:Int):=by omega
 clear c2 c3 z1 z2 z3
 go_enter Tryz.func61,Tryz.ntmps61
 go_wp2
 go_quiet (fail)
 go_wp2
 go_ret
 refine ⟨rfl,?_⟩
 exact ⟨_,rfl⟩
theorem Rd.drewN {w:World} {R:Nat} {s:ByteArray} {i:Nat} {nv sv:Value} (h:Rd w R s i nv sv) (n:Nat):Rd (w.drewN n) R s i nv sv :=
 ⟨h.c0,h.c1,h.c2,h.c3,h.z1,h.z2,h.z3⟩
theorem Rd.set {w:World} {R:Nat} {s:ByteArray} {i:Nat} {nv sv:Value} (h:Rd w R s i nv sv) (j:Nat):Rd (w.setCell ⟨R,1,none⟩ (.int .i64 j)) R s j nv sv:=by
 obtain ⟨c0,c1,c2,c3,z1,z2,z3⟩:=h
 constructor <;> simp [go_sem,c0,c1,c2,c3,z1,z2,z3]
theorem passBlanks_any (s:ByteArray) (R i:Nat) (nv sv:Value) (w:World) (h:Rd w R s i nv sv) (hs:s.size≤maxLen) (hi:i≤s.size) :
  Calls Tryz.prog 59 #[.pointer (some ⟨R,0,none⟩)] w fun e w'=>e=.returned (.tuple #[])∧∃j:Nat,i≤j∧j≤s.size∧toks i ((bI s).drop i)=toks j ((bI s).drop j)∧(∀h:j<s.size,¬(s[j].toNat:Int)=32)∧Rd w' R s j nv sv∧Kp (fun k=>k=R) w w':=by
 unfold maxLen at hs
 go_enter Tryz.func59,Tryz.ntmps59
 go_wp2
 go_loopg [] (s.size - i) (fun g wr=>∃j:Nat,i≤j∧j≤s.size∧g=s.size - j∧toks i ((bI s).drop i)=toks j ((bI s).drop j)∧Rd wr R s j nv sv∧Kp (fun k=>k=R) w wr)
 case atStart=>exact ⟨i,Nat.le_refl _,hi,rfl,rfl,h,Kp.refl _ _⟩
 case round =>
  obtain ⟨j,h1,h2,h3,h4,h5,h6⟩:=hrel
  have H3:Hid _:=h3
  have H4:Hid _:=h4
  have H5:Hid _:=h5
  have H6:Hid _:=h6
  clear h3 h4 h6
  obtain ⟨c0,c1,c2,c3,z1,z2,z3⟩:=h5
  clear c2 c3 z2 z3 h
  have i0:(0:Int)≤(j:Int):=by omega
  by_cases hlt:j<s.size
  ·have i1:(j:Int)<(s.size:Int):=by omega
   by_cases h32:(s[j].toNat:Int)=32
   ·have h32':((s[j].toNat:Int) == 32)=true:=by simp [h32]
    go_wp2
    go_quiet (fail)
    go_wp2
    go_roundg (s.size - (j+1))
    case measure=>have:=H3.out;omega
    case rel =>
     refine ⟨j+1,by omega,by omega,rfl,?_,?_,?_⟩
     ·rw [H4.out,bI_drop s j hlt];simp [toks,h32]
     ·exact (H5.out.drewN _).set (j+1)
     ·exact (H6.out.drewN _).setCell (Or.inr rfl) _
   ·have h32':((s[j].toNat:Int) == 32)=false:=by simp [h32]
    go_wp2
    go_quiet (fail)
    go_wp2
    go_end0
    exact ⟨rfl,j,h1,h2,H4.out,fun _=>h32,H5.out.drewN _,H6.out.drewN _⟩
  ·have i1:(s.size:Int)≤(j:Int):=by omega
   have hd:decide ((j:Int)<(s.size:Int))=false:=by simp;omega
   go_wp2
   go_quiet (fail)
   go_wp2
   go_end0
   exact ⟨rfl,j,h1,h2,H4.out,fun h=>absurd h hlt,H5.out.drewN _,H6.out.drewN _⟩
def At (s:ByteArray) (i:Nat) (l:List Tok):Prop:=i≤s.size∧l=toks i ((bI s).drop i)∧∀h:i<s.size,¬(s[i].toNat:Int)=32
theorem At.nil {s:ByteArray} {i:Nat} (h:At s i []):i=s.size:=by
 obtain ⟨h1,h2,h3⟩:=h
 by_cases hlt:i<s.size
 ·rw [bI_drop s i hlt] at h2;simp [toks,h3 hlt] at h2
 ·omega
theorem At.cons {s:ByteArray} {i:Nat} {c:Int} {p:Nat} {l:List Tok} (h:At s i ((c,p)::l)):∃h:i<s.size,c=(s[i].toNat:Int)∧p=i∧l=toks (i+1) ((bI s).drop (i+1)):=by
 obtain ⟨h1,h2,h3⟩:=h
 by_cases hlt:i<s.size
 ·rw [bI_drop s i hlt] at h2
  simp [toks,h3 hlt] at h2
  exact ⟨hlt,h2.1.1,h2.1.2,h2.2⟩
 ·have:i=s.size:=by omega
  subst this
  rw [bI_drop_end] at h2
  simp [toks] at h2
theorem pass_any (s:ByteArray) (R i:Nat) (nv sv:Value) (c:Int) (p:Nat) (l:List Tok) (w:World) (h:Rd w R s i nv sv) (hs:s.size≤maxLen) (ha:At s i ((c,p)::l)) :
  Calls Tryz.prog 62 #[.pointer (some ⟨R,0,none⟩)] w fun e w'=>e=.returned (.tuple #[])∧∃j:Nat,At s j l∧Rd w' R s j nv sv∧Kp (fun k=>k=R) w w':=by
 obtain ⟨hlt,_,_,hl⟩:=ha.cons
 have HL:Hid _:=hl
 clear hl ha
 have H:Hid _:=h
 obtain ⟨c0,c1,c2,c3,z1,z2,z3⟩:=h
 have hs':=hs
 unfold maxLen at hs'
 go_enter Tryz.func62,Tryz.ntmps62
 go_wp2_with (go_at_call 59;refine (passBlanks_any s R (i+1) nv sv _ ?_ hs (by omega)).mono ?_;exact H.out.set (i+1);rintro e w1 ⟨rfl,j,h1,h2,h3,h4,h5,h6⟩)
 go_end0
 exact ⟨rfl,j,⟨h2,by rw [HL.out,h3],h4⟩,h5,((Kp.refl (fun k=>k=R) w).setCell (p:=⟨R,1,none⟩) (Or.inr rfl) _).trans h6⟩
def hd:List Tok→Int
 | []=>0
 | (c,_)::_=>c
theorem At.hd_bounds {s:ByteArray} {i:Nat} {l:List Tok} (h:At s i l):0≤hd l∧hd l≤255:=by
 match l,h with
 | [],_=>simp [hd]
 | (c,p)::r,h =>
  obtain ⟨hlt,hc,_,_⟩:=h.cons
  have:=UInt8.toNat_lt s[i]
  simp only [hd];omega
theorem peek_at {s:ByteArray} {R i:Nat} {nv sv:Value} {l:List Tok} {w:World} (h:Rd w R s i nv sv) (hs:s.size≤maxLen) (ha:At s i l) :
  Calls Tryz.prog 61 #[.pointer (some ⟨R,0,none⟩)] w fun e w'=>e=.returned (.int .u8 (hd l))∧∃n,w'=w.drewN n:=by
 match l,ha with
 | [],ha=>exact peek_end s R i nv sv w h hs (by rw [ha.nil];exact Nat.le_refl _)
 | (c,p)::r,ha =>
  obtain ⟨hlt,hc,_,_⟩:=ha.cons
  subst hc
  exact peek_in s R i nv sv w h hs hlt
theorem p10 (k:Nat) (h:k≤18):(10:Int) ^ k≤1000000000000000000:=by
 have:∀j:Fin 19,(10:Int) ^ (j:Nat)≤1000000000000000000:=by decide
 exact this ⟨k,by omega⟩
theorem digitO_of {c:Int} (h:isDigitB c=true):digitO c=c - 48:=by simp [digitO,h]
theorem digitO_not {c:Int} (h:isDigitB c=false):digitO c = -1:=by simp [digitO,h]
def RdPost (s:ByteArray) (R:Nat) (nv sv:Value) (w:World) (x:List Tok) (w':World):Prop :=
 ∃j:Nat,At s j x∧Rd w' R s j nv sv∧Kp (fun k=>k=R) w w'
theorem readNumber_any (s:ByteArray) (R i:Nat) (nv sv:Value) (l:List Tok) (w:World) (h:Rd w R s i nv sv) (hs:s.size≤maxLen) (ha:At s i l) :
  Calls Tryz.prog 63 #[.pointer (some ⟨R,0,none⟩)] w fun e w'=>∃v b,e=.returned (.tuple #[.int .i64 v,.bool b])∧(pNum 0 0 l).1=(if b=true then some v else none)∧RdPost s R nv sv w (pNum 0 0 l).2 w':=by
 go_enter Tryz.func63,Tryz.ntmps63
 go_wp2
 go_loopg [4,5] l.length (fun g a d wr=>∃(acc:Int) (k:Nat) (y:List Tok) (j:Nat),a=.int .i64 acc∧d=.int .i64 k∧g=y.length∧0≤acc∧acc<10 ^ k∧k≤18∧pNum 0 0 l=pNum acc k y∧At s j y∧Rd wr R s j nv sv∧Kp (fun k=>k=R) w wr)
 case atStart=>exact ⟨0,0,l,i,rfl,rfl,rfl,by omega,by simp,by omega,rfl,ha,h,Kp.refl _ _⟩
 case round =>
  obtain ⟨acc,k,y,j,rfl,rfl,hg,h1,h2,h3,h4,h5,h6,h7⟩:=hrel
  have HG:Hid _:=hg
  have H4:Hid _:=h4
  have H5:Hid (At s j y):=h5
  have H6:Hid _:=h6
  have H7:Hid _:=h7
  have H2:Hid _:=h2
  clear hg h4 h5 h6 h7 h2 h ha
  obtain ⟨b0,b1⟩:=H5.out.hd_bounds
  have H8:=H5.out
  generalize hc:hd y=c at b0 b1
  have HC:Hid _:=hc
  clear hc
  rcases Bool.eq_false_or_eq_true (isDigitB c) with hd' | hd'
  ·have hb:=isDigit_bounds hd'
   have HY:Hid (∃p r,y=(c,p)::r):=by
    show ∃p r,y=(c,p)::r
    have:=HC.out
    match y,this with
    | [],e=>simp only [hd] at e;omega
    | (d,p)::r,e=>exact ⟨p,r,by rw [←e];rfl⟩
   by_cases h18:k=18
   ·subst h18
    go_wp2_with (first
     | (go_at_call 61;refine (peek_at H6.out hs H5.out).mono ?_;rw [HC.out];rintro e w1 ⟨rfl,n1,rfl⟩)
     | (go_at_call 90;refine (digitOf_any _ _ (by omega) (by omega)).mono ?_;rw [digitO_of hd'];rintro e w1 ⟨rfl,rfl⟩))
    go_ret2
    obtain ⟨p,r,rfl⟩:=HY.out
    refine ⟨0,false,rfl,?_,?_⟩
    ·rw [H4.out];simp [pNum,hd']
    ·rw [H4.out];simp only [pNum,if_pos hd',if_pos rfl]
     exact ⟨j,H5.out,H6.out.drewN _,H7.out.drewN _⟩
   ·have hk18:((k:Int) == 18)=false:=by simp;omega
    have hp:=p10 (k+1) (by omega)
    have hq:(10:Int) ^ (k+1)=10 ^ k*10:=Int.pow_succ 10 k
    have h2':=H2.out
    have hacc:acc≤99999999999999999:=by omega
    have HP:Hid (10*acc+(c - 48)<10 ^ (k+1)):=by show _<_;omega
    clear hp hq h2'
    obtain ⟨p,r,rfl⟩:=HY.out
    clear H8
    go_wp2_with (first
     | (go_at_call 61;refine (peek_at (s:=s) (i:=j) (nv:=nv) (sv:=sv) (l:=(c,p)::r) ?_ hs H5.out).mono ?_;(first|exact H6.out|exact H6.out.drewN _);simp only [hd];rintro e w1 ⟨rfl,n1,rfl⟩)
     | (go_at_call 90;refine (digitOf_any _ _ (by omega) (by omega)).mono ?_;rw [digitO_of hd'];rintro e w1 ⟨rfl,rfl⟩)
     | (go_at_call 62;refine (pass_any s R j nv sv c p r _ ?_ hs H5.out).mono ?_;(first|exact H6.out.drewN _|exact (H6.out.drewN _).drewN _);rintro e w1 ⟨rfl,j1,q1,q2,q3⟩))
    go_roundg r.length
    case measure=>rw [HG.out];simp
    case rel =>
     refine ⟨10*acc+(c - 48),k+1,r,j1,rfl,by go_num,rfl,by omega,HP.out,by omega,?_,q1,q2,?_⟩
     ·rw [H4.out];simp [pNum,hd',h18]
     ·first|exact (H7.out.drewN _).trans q3|exact ((H7.out.drewN _).drewN _).trans q3
  ·go_wp2_with (first
     | (go_at_call 61;refine (peek_at H6.out hs H5.out).mono ?_;rw [HC.out];rintro e w1 ⟨rfl,n1,rfl⟩)
     | (go_at_call 90;refine (digitOf_any _ _ (by omega) (by omega)).mono ?_;rw [digitO_not hd'];rintro e w1 ⟨rfl,rfl⟩))
   go_ret2
   have hy:pNum acc k y=(if k=0 then none else some acc,y):=by
    have:=HC.out
    match y,this with
    | [],e=>simp [pNum]
    | (d,p)::r,e=>simp only [hd] at e;subst e;simp [pNum,hd']
   refine ⟨acc,decide (0<k),?_,?_,?_⟩
   ·simp
   ·rw [H4.out,hy]
    by_cases hk:k=0
    ·subst hk;rfl
    ·have:decide (0<k)=true:=by simp;omega
     simp [hk,this]
   ·rw [H4.out,hy]
    exact ⟨j,H5.out,H6.out.drewN _,H7.out.drewN _⟩
end Go.Proofs.YtcboiapggnmpfaaGreatDoor
