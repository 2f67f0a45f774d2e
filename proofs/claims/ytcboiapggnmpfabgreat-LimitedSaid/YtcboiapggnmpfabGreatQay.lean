import Derived.Test.YtcboiapggnmpfabGreatQap
namespace Go.Proofs.YtcboiapggnmpfabGreat
set_option maxRecDepth 100000
set_option maxHeartbeats 1000000
set_option linter.unusedSimpArgs false
set_option linter.unusedVariables false
open Go.RowKit
def SayP (w:World) (p:Prop) (e:Ending) (w':World):Prop:=∃b:Bool,e=.returned (.bool b)∧(b=true↔p)∧Nw w w'
structure StsM (w:World) (g n:Nat) (nm kd:Nat→Int):Prop where
 lt:g<w.heap.size
 k:∀i,i<n→w.cell? ⟨g,i*4+1,none⟩=some (.int .i64 (kd i))
 m:∀i,i<n→w.cell? ⟨g,i*4+2,none⟩=some (.int .i64 (nm i))
theorem StsM.nw {w w':World} {g n:Nat} {nm kd:Nat→Int} (h:StsM w g n nm kd) (k:Nw w w'):StsM w' g n nm kd :=
 ⟨Nat.lt_of_lt_of_le h.lt k.size,fun i hi=>(k.cell h.lt (fun h=>h)).trans (h.k i hi),fun i hi=>(k.cell h.lt (fun h=>h)).trans (h.m i hi)⟩
theorem StsM.le {w:World} {g n m:Nat} {nm kd:Nat→Int} (h:StsM w g n nm kd) (hm:m≤n):StsM w g m nm kd :=
 ⟨h.lt,fun i hi=>h.k i (by omega),fun i hi=>h.m i (by omega)⟩
theorem firstOf_is {nm:Nat→Int} {x:Int} {n i:Nat} (hi:i<n) (he:nm i=x) (hb:∀j,j<i→¬nm j=x):firstOf nm x n=i:=by
 obtain ⟨f1,f2⟩:=firstOf_spec nm x n
 by_cases h:firstOf nm x n<n
 ·obtain ⟨g1,g2⟩:=f1 h
  by_cases c:firstOf nm x n<i
  ·exact absurd g1 (hb _ c)
  ·by_cases d:i<firstOf nm x n
   ·exact absurd he (g2 i d)
   ·omega
 ·exact absurd he ((f2 h).2 i hi)
theorem firstOf_no {nm:Nat→Int} {x:Int} {n:Nat} (hb:∀j,j<n→¬nm j=x):firstOf nm x n=n:=by
 obtain ⟨f1,f2⟩:=firstOf_spec nm x n
 by_cases h:firstOf nm x n<n
 ·exact absurd (f1 h).1 (hb _ h)
 ·exact (f2 h).1
theorem box2 {w w1:World} {A B:Array Value} {t u:TypeId} (k:Nw ((w.alloc (.cells A t)).alloc (.cells B u)) w1) :
  (∀(j:Nat) v,A[j]? = some v→w1.cell? ⟨w.heap.size,j,none⟩=some v)∧(∀(j:Nat) v,B[j]? = some v→w1.cell? ⟨w.heap.size+1,j,none⟩=some v)∧w.heap.size+1<w1.heap.size∧Nw w w1:=by
 have hs:((w.alloc (.cells A t)).alloc (.cells B u)).heap.size=w.heap.size+2:=by simp
 refine ⟨fun j v hv => ?_,fun j v hv => ?_,by have:=k.size;omega,(((Kp.refl _ w).alloc _).alloc _).trans k⟩
 ·rw [k.cell (by show w.heap.size<_;omega) (fun h=>h)]
  rw [←hv]
  simp [go_sem,World.cell?_alloc_at]
 ·rw [k.cell (by show w.heap.size+1<_;omega) (fun h=>h)]
  rw [←hv]
  simp [go_sem,World.cell?_alloc_at]
theorem firstNamed_any (g n c:Nat) (nm kd:Nat→Int) (x:Int) (w:World) (h:StsM w g n nm kd) (hn:n≤10000) :
  Calls Tryz.prog 101 #[.slice (some ⟨g,0,none⟩) n c,.int .i64 x] w fun e w'=>e=.returned (.int .i64 (firstOf nm x n:Nat))∧Nw w w':=by
 have H:Hid (StsM w g n nm kd):=h
 clear h
 go_enter Tryz.func101,Tryz.ntmps101
 go_wp2
 go_loopg [5] n (fun m v wr=>∃i:Nat,v=.int .i64 i∧m=n - i∧i≤n∧(∀j,j<i→¬nm j=x)∧Nw w wr)
 case atStart=>exact ⟨0,rfl,rfl,by omega,(fun j hj=>by omega),Kp.refl _ _⟩
 case round =>
  obtain ⟨i,rfl,hm,hi,hb,hk⟩:=hrel
  have HB:Hid (∀j,j<i→¬nm j=x):=hb
  have HK:Hid (Nw w wr):=hk
  have HM:Hid (_=n - i):=hm
  clear hb hm
  by_cases hil:i<n
  ·have d:=(H.out.nw hk).m i hil
   clear hk
   by_cases he:nm i=x
   ·have he':(nm i == x)=true:=by simp [he]
    have HE:Hid (firstOf nm x n=i):=firstOf_is hil he HB.out
    clear he
    generalize nm i=y at *
    go_wp2
    go_ret
    exact ⟨by rw [HE.out];rfl,HK.out⟩
   ·have he':(nm i == x)=false:=by simp [he]
    have HB2:Hid (∀j,j<i+1→¬nm j=x):=by
     intro j hj
     by_cases e:j=i
     ·subst e;exact he
     ·exact HB.out j (by omega)
    clear he
    generalize nm i=y at *
    go_wp2
    go_roundg (n - (i+1))
    case measure=>rw [HM.out];omega
    case rel=>exact ⟨i+1,by simp,rfl,by omega,HB2.out,HK.out⟩
  ·have hie:i=n:=by omega
   subst hie
   have HE:Hid (firstOf nm x i=i):=firstOf_no HB.out
   clear hk
   go_wp2
   go_ret
   exact ⟨by rw [HE.out];rfl,HK.out⟩
def TermR (l:List Int) (nm kd:Nat→Int) (S:Nat) (k:Nat) (kind of fd:Int):Prop :=
 of=0∨(of=1∧hasFd l kind fd=true)∨(2≤of∧hasN S (of - 2)=true∧firstOf nm (of - 2) k<k∧hasFd l (kd (firstOf nm (of - 2) k)) fd=true)
theorem termR_any (l:List Int) (hl:l.length≤4) (g k c:Nat) (nm kd:Nat→Int) (S:Nat) (hS:S<2 ^ 26) (kind of fd num:Int) (hof:0≤of∧of≤27) (w:World) (h:StsM w g k nm kd) (hn:k≤10000) :
  Calls Tryz.prog 102 #[schV l,.slice (some ⟨g,0,none⟩) k c,.int .i64 kind,.agg #[.int .i64 of,.int .i64 fd,.int .i64 num],.int .i64 S] w (SayP w (TermR l nm kd S k kind of fd)):=by
 have H:Hid (StsM w g k nm kd):=h
 have hlt:=h.lt
 obtain ⟨hof0,hof1⟩:=hof
 clear h
 have HHF:Hid (∀a b W,Calls Tryz.prog 62 #[schV l,.int .i64 a,.int .i64 b] W fun e w'=>e=.returned (.bool (hasFd l a b))∧Nw W w'):=fun a b W=>hasField_any l a b W hl
 by_cases h0:of=0
 ·have g0:(of == 0)=true:=by simp [h0]
  have HP:Hid (TermR l nm kd S k kind of fd):=Or.inl h0
  generalize TermR l nm kd S k kind of fd=pp at *
  clear h0
  unfold schV
  go_enter Tryz.func102,Tryz.ntmps102
  go_wp2
  go_ret
  exact ⟨true,rfl,⟨fun _=>HP.out,fun _=>rfl⟩,by first|exact (Kp.refl _ w).alloc _|exact ((Kp.refl _ w).alloc _).alloc _⟩
 ·have g0:(of == 0)=false:=by simp [h0]
  by_cases h1:of=1
  ·have g1:(of == 1)=true:=by simp [h1]
   have HP:Hid (TermR l nm kd S k kind of fd↔hasFd l kind fd=true):=by
    constructor
    ·rintro (h|⟨_,h⟩ | ⟨h,_⟩)
     ·exact absurd h h0
     ·exact h
     ·omega
    ·intro h;exact Or.inr (Or.inl ⟨h1,h⟩)
   generalize TermR l nm kd S k kind of fd=pp at *
   clear h1 h0
   unfold schV at *
   go_enter Tryz.func102,Tryz.ntmps102
   go_wp2_with fail
   refine (HHF.out _ _ _).mono ?_
   rintro e w1 ⟨rfl,k1⟩
   generalize hasFd l kind fd=hv at *
   go_wp2
   go_ret
   exact ⟨hv,rfl,HP.out.symm,by first|exact ((Kp.refl _ w).alloc _).trans k1|exact (((Kp.refl _ w).alloc _).alloc _).trans k1⟩
  ·have h2:2≤of:=by omega
   have g1:(of == 1)=false:=by simp [h1]
   have HP:Hid (TermR l nm kd S k kind of fd↔(hasN S (of - 2)=true∧firstOf nm (of - 2) k<k∧hasFd l (kd (firstOf nm (of - 2) k)) fd=true)):=by
    constructor
    ·rintro (h|⟨h,_⟩ | ⟨_,h⟩)
     ·exact absurd h h0
     ·exact absurd h h1
     ·exact h
    ·intro h;exact Or.inr (Or.inr ⟨h2,h⟩)
   have HFN:Hid (∀W,Nw w W→Calls Tryz.prog 101 #[.slice (some ⟨g,0,none⟩) k c,.int .i64 (of - 2)] W fun e w'=>e=.returned (.int .i64 (firstOf nm (of - 2) k:Nat))∧Nw W w'):=fun W kW=>firstNamed_any g k c nm kd (of - 2) W (H.out.nw kW) hn
   have hfl:=firstOf_le nm (of - 2) k
   have HKD:Hid (∀W,Nw w W→firstOf nm (of - 2) k<k→W.cell? ⟨g,firstOf nm (of - 2) k*4+1,none⟩=some (.int .i64 (kd (firstOf nm (of - 2) k)))):=fun W kW h=>(H.out.nw kW).k _ h
   have HHS:Hid (∀W,Calls Tryz.prog 100 #[.int .i64 S,.int .i64 (of - 2)] W fun e w'=>e=.returned (.bool (hasN S (of - 2)))∧w'=W):=fun W=>hasSet_any S (of - 2) W hS
   generalize TermR l nm kd S k kind of fd=pp at *
   generalize firstOf nm (of - 2) k=F at *
   generalize hasN S (of - 2)=B1 at *
   clear h1 h0
   unfold schV at *
   go_enter Tryz.func102,Tryz.ntmps102
   go_wp2_with fail
   refine (HFN.out _ (((Kp.refl _ w).alloc _).alloc _)).mono ?_
   rintro e w1 ⟨rfl,k1⟩
   obtain ⟨b1,b2,hl1,kk⟩:=box2 k1
   have K1:Hid (Nw w w1):=kk
   have c0:=b1 0 _ rfl
   have c1:=b1 1 _ rfl
   have c2:=b1 2 _ rfl
   have c3:=b1 3 _ rfl
   have c4:=b1 4 _ rfl
   have d0:=b2 0 _ rfl
   have d1:=b2 1 _ rfl
   have d2:=b2 2 _ rfl
   have hx:=HKD.out w1 kk
   clear b1 b2 k1 kk HFN HKD
   cases B1 with
   | false =>
    have HF:Hid (¬pp):=by intro hp;have:=(HP.out.1 hp).1;cases this
    go_wp2
    go_quiet ((go_at_call 100;refine Calls.quiet_of_same (HHS.out _)))
    go_wp2
    go_ret
    exact ⟨false,rfl,⟨(fun h=>by cases h),fun h=>absurd h HF.out⟩,by first|exact K1.out|exact K1.out.drewN _⟩
   | true =>
    by_cases hF:F=k
    ·have g2:decide (F<k)=false:=by simp;omega
     have HF:Hid (¬pp):=by intro hp;have:=(HP.out.1 hp).2.1;omega
     clear hx hF
     go_wp2
     go_quiet ((go_at_call 100;refine Calls.quiet_of_same (HHS.out _)))
     go_wp2
     go_ret
     exact ⟨false,rfl,⟨(fun h=>by cases h),fun h=>absurd h HF.out⟩,by first|exact K1.out|exact K1.out.drewN _⟩
    ·have hFk:F<k:=by omega
     have g2:decide ((F:Int)<(k:Int))=true:=by simp;omega
     have g3:(F:Int)<(k:Int):=by omega
     have hcF:=hx hFk
     have hgl:g<w1.heap.size:=Nat.lt_of_lt_of_le hlt K1.out.size
     have HT:Hid (hasFd l (kd F) fd=true↔pp):=by
      constructor
      ·intro h;exact HP.out.2 ⟨rfl,hFk,h⟩
      ·intro h;exact (HP.out.1 h).2.2
     clear hx hF HP
     generalize kd F=kF at *
     have HHV:Hid (∀W,Calls Tryz.prog 62 #[.agg #[.int .i64 l.length,.int .i64 (scF l 0),.int .i64 (scF l 1),.int .i64 (scF l 2),.int .i64 (scF l 3)],.int .i64 kF,.int .i64 fd] W fun e w'=>e=.returned (.bool (hasFd l kF fd))∧Nw W w'):=fun W=>HHF.out kF fd W
     generalize hasFd l kF fd=hv at *
     have HSW:Hid (∀W,Nw w1 W→(W.cell? ⟨w.heap.size,0,none⟩=some (.int .i64 l.length)∧W.cell? ⟨w.heap.size,1,none⟩=some (.int .i64 (scF l 0))∧W.cell? ⟨w.heap.size,2,none⟩=some (.int .i64 (scF l 1))∧W.cell? ⟨w.heap.size,3,none⟩=some (.int .i64 (scF l 2))∧W.cell? ⟨w.heap.size,4,none⟩=some (.int .i64 (scF l 3))∧W.cell? ⟨w.heap.size+1,1,none⟩=some (.int .i64 fd)∧W.cell? ⟨g,F*4+1,none⟩=some (.int .i64 kF))):=by
      intro W kW
      have y0:w.heap.size<w1.heap.size:=by omega
      exact ⟨(kW.cell y0 (fun h=>h)).trans c0,(kW.cell y0 (fun h=>h)).trans c1,(kW.cell y0 (fun h=>h)).trans c2,(kW.cell y0 (fun h=>h)).trans c3,(kW.cell y0 (fun h=>h)).trans c4,(kW.cell hl1 (fun h=>h)).trans d1,(kW.cell hgl (fun h=>h)).trans hcF⟩
     go_wp2
     go_region_held3 (fun w'=>w'.cell? ⟨w.heap.size,0,none⟩=some (.int .i64 l.length)∧w'.cell? ⟨w.heap.size,1,none⟩=some (.int .i64 (scF l 0))∧w'.cell? ⟨w.heap.size,2,none⟩=some (.int .i64 (scF l 1))∧w'.cell? ⟨w.heap.size,3,none⟩=some (.int .i64 (scF l 2))∧w'.cell? ⟨w.heap.size,4,none⟩=some (.int .i64 (scF l 3))∧w'.cell? ⟨w.heap.size+1,1,none⟩=some (.int .i64 fd)∧w'.cell? ⟨g,F*4+1,none⟩=some (.int .i64 kF)) (first|exact HSW.out _ (Kp.refl _ _)|exact HSW.out _ ((Kp.refl _ _).drewN _)|exact HSW.out _ (((Kp.refl _ _).drewN _).trans k9)|exact HSW.out _ k9)
      ((first|(go_at_call 100;refine (HHS.out _).mono ?_;rintro e9 w9 ⟨rfl,rfl⟩)|(go_at_call 62;refine (HHV.out _).mono ?_;rintro e9 w9 ⟨rfl,k9⟩)))
     all_goals
      go_wp2
      go_ret
      exact ⟨hv,rfl,HT.out,by first|exact K1.out.trans k9|exact (K1.out.drewN _).trans k9|exact ((K1.out.drewN _).trans k9).drewN _⟩
end Go.Proofs.YtcboiapggnmpfabGreat
