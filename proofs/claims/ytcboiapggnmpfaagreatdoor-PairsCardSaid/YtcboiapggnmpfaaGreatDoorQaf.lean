import Derived.Test.YtcboiapggnmpfaaGreatDoorQad
import Derived.Test.YtcboiapggnmpfaaGreatDoorQab
import Derived.Test.YtcboiapggnmpfaaGreatDoorQae
import Derived.Test.YtcboiapggnmpfaaGreatDoorRows
import Derived.JoinedOf
import Derived.KernelRfl
namespace Go.Proofs.YtcboiapggnmpfaaGreatDoor
set_option maxRecDepth 100000
set_option maxHeartbeats 1000000
set_option linter.unusedSimpArgs false
set_option linter.unusedVariables false
open Go.RowKit
def withinB (n m:Int):Bool:=decide (0≤n)&&decide (n≤m)
theorem isWithin_any (n m:Int) (w:World) :
  Calls Tryz.prog 102 #[.int .i64 n,.int .i64 m] w fun e w'=>e=.returned (.bool (withinB n m))∧w'=w:=by
 go_enter Tryz.func102,Tryz.ntmps102
 go_wp2
 all_goals
  go_ret
  exact ⟨ret_b (by rw [Bool.eq_iff_iff];simp [withinB] at *;try omega),rfl⟩
theorem goesOnBehind_any (n:Int) (w:World) :
  Calls Tryz.prog 78 #[.int .i64 n] w fun e w'=>e=.returned (.bool (!(decide (n=4)||decide (n=5)||decide (n=6))))∧w'=w:=by
 go_enter Tryz.func78,Tryz.ntmps78
 go_wp2
 all_goals
  go_ret
  exact ⟨ret_b (by rw [Bool.eq_iff_iff];simp at *;try omega),rfl⟩
theorem isTermP_any (a b c:Int) (w:World) :
  Calls Tryz.prog 111 #[.agg #[.int .i64 a,.int .i64 b,.int .i64 c]] w fun e w'=>e=.returned (.bool (tmIsB ⟨a,b,c⟩))∧Nw w w':=by
 generalize hA:withinB a 5=A
 generalize hB:withinB b 3=B
 go_enter Tryz.func111,Tryz.ntmps111
 go_wp2_with (go_at_call 102;refine (isWithin_any _ _ _).mono ?_;(first|rw [hA] | rw [hB]);rintro e1 w1 ⟨rfl,rfl⟩)
 all_goals go_ret
 all_goals refine ⟨ret_b ?_,(Kp.refl _ _).alloc _⟩
 all_goals (subst hA;subst hB;rw [Bool.eq_iff_iff];simp [tmIsB,withinB] at *;try omega)
theorem isTestP_any (a b c d e f g h i j k:Int) (w:World) :
  Calls Tryz.prog 101 #[.agg #[.int .i64 a,.int .i64 b,.int .i64 c,.int .i64 d,.int .i64 e,.int .i64 f,.int .i64 g,.int .i64 h,.int .i64 i,.int .i64 j,.int .i64 k]] w fun en w'=>en=.returned (.bool (tstIsB ⟨⟨a,b,c⟩,d,⟨e,f,g⟩,h,⟨i,j,k⟩⟩))∧Nw w w':=by
 generalize hT1:tmIsB ⟨a,b,c⟩=T1
 generalize hT2:tmIsB ⟨e,f,g⟩=T2
 generalize hT3:tmIsB ⟨i,j,k⟩=T3
 have hfin:Hid (tstIsB ⟨⟨a,b,c⟩,d,⟨e,f,g⟩,h,⟨i,j,k⟩⟩=(T1&&T2&&T3&&(!decide (h=0)||tm0B ⟨i,j,k⟩)&&withinB d 3&&withinB h 3)):=by
  show _=_
  simp only [tstIsB,hT1,hT2,hT3,withinB]
  clear hT1 hT2 hT3
  generalize tm0B ⟨i,j,k⟩=Z
  rw [Bool.eq_iff_iff];cases T1 <;> cases T2 <;> cases T3 <;> cases Z <;> simp <;> omega
 have H1:Hid (tmIsB ⟨a,b,c⟩=T1):=hT1
 have H2:Hid (tmIsB ⟨e,f,g⟩=T2):=hT2
 have H3:Hid (tmIsB ⟨i,j,k⟩=T3):=hT3
 clear hT1 hT2 hT3
 generalize hR:withinB d 3=R at hfin
 generalize hH:withinB h 3=S at hfin
 by_cases hM:h=0∧¬(i=0∧j=0∧k=0)
 ·obtain ⟨rfl,hM⟩:=hM
  have hf2:Hid (tstIsB ⟨⟨a,b,c⟩,d,⟨e,f,g⟩,0,⟨i,j,k⟩⟩=false):=by
   show _=_
   rw [hfin.out]
   have:tm0B ⟨i,j,k⟩=false:=by rw [Bool.eq_false_iff];intro hc;simp [tm0B] at hc;exact hM (by omega)
   simp [this]
  by_cases hi:i=0
  ·subst hi
   by_cases hj:j=0
   ·subst hj
    have hk:¬k=0:=fun e=>hM ⟨rfl,rfl,e⟩
    go_enter Tryz.func101,Tryz.ntmps101
    go_wp2_with (go_at_call 102;refine (isWithin_any _ _ _).mono ?_;(first|rw [hR] | rw [hH]);rintro e1 w1 ⟨rfl,rfl⟩)
    all_goals go_ret
    all_goals exact ⟨ret_b hf2.out.symm,(Kp.refl _ _).alloc _⟩
   ·go_enter Tryz.func101,Tryz.ntmps101
    go_wp2_with (go_at_call 102;refine (isWithin_any _ _ _).mono ?_;(first|rw [hR] | rw [hH]);rintro e1 w1 ⟨rfl,rfl⟩)
    all_goals go_ret
    all_goals exact ⟨ret_b hf2.out.symm,(Kp.refl _ _).alloc _⟩
  ·go_enter Tryz.func101,Tryz.ntmps101
   go_wp2_with (go_at_call 102;refine (isWithin_any _ _ _).mono ?_;(first|rw [hR] | rw [hH]);rintro e1 w1 ⟨rfl,rfl⟩)
   all_goals go_ret
   all_goals exact ⟨ret_b hf2.out.symm,(Kp.refl _ _).alloc _⟩
 ·have hf3:Hid (tstIsB ⟨⟨a,b,c⟩,d,⟨e,f,g⟩,h,⟨i,j,k⟩⟩=(T1&&T2&&T3&&R&&S)):=by
   show _=_
   rw [hfin.out]
   have:(!decide (h=0)||tm0B ⟨i,j,k⟩)=true:=by simp [tm0B];omega
   rw [this];simp
  clear hfin
  cases R with
  | false =>
   go_enter Tryz.func101,Tryz.ntmps101
   go_wp2_with (go_at_call 102;refine (isWithin_any _ _ _).mono ?_;(first|rw [hR] | rw [hH]);rintro e1 w1 ⟨rfl,rfl⟩)
   all_goals go_ret
   all_goals exact ⟨ret_b (by rw [hf3.out];simp),(Kp.refl _ _).alloc _⟩
  | true =>
   cases S with
   | false =>
    go_enter Tryz.func101,Tryz.ntmps101
    go_wp2_with (go_at_call 102;refine (isWithin_any _ _ _).mono ?_;(first|rw [hR] | rw [hH]);rintro e1 w1 ⟨rfl,rfl⟩)
    all_goals go_ret
    all_goals exact ⟨ret_b (by rw [hf3.out];simp),(Kp.refl _ _).alloc _⟩
   | true =>
    have hcase:(h == 0)=false∨(h=0∧i=0∧j=0∧k=0):=by
     by_cases e:h=0
     ·exact Or.inr (by omega)
     ·exact Or.inl (by simp [e])
    clear hM
    rcases hcase with hz|⟨rfl,rfl,rfl,rfl⟩
    all_goals
     go_enter Tryz.func101,Tryz.ntmps101
     go_wp2_with (first|(go_at_call 102;refine (isWithin_any _ _ _).mono ?_;(first|rw [hR] | rw [hH]);rintro e1 w1 ⟨rfl,rfl⟩)|fail)
     refine (isTermP_any a b c _).mono ?_
     rw [H1.out]
     rintro e1 w1 ⟨rfl,k1⟩
     obtain ⟨kk,hl,⟨kc,kz⟩⟩:=k1.box (fun h=>h)
     have K1:Hid (Nw w w1):=kk
     have S1:Hid (Sm _ w1 w.heap.size):=⟨kc,kz⟩
     clear k1 kk
     cases T1 with
     | false =>
      go_wp2
      go_ret
      exact ⟨ret_b (by rw [hf3.out];simp),K1.out⟩
     | true =>
      go_wp2_with fail
      refine (isTermP_any e f g _).mono ?_
      rw [H2.out]
      rintro e2 w2 ⟨rfl,k2⟩
      clear kc kz
      have K2:Hid (Nw w w2):=K1.out.trans k2
      obtain ⟨hl2,⟨kc,kz⟩⟩:=k2.keeps S1.out hl (fun h=>h)
      clear k2 S1
      cases T2 with
      | false =>
       go_wp2
       go_ret
       exact ⟨ret_b (by rw [hf3.out];simp),K2.out⟩
      | true =>
       go_wp2_with fail
       refine (isTermP_any _ _ _ _).mono ?_
       rw [H3.out]
       rintro e3 w3 ⟨rfl,k3⟩
       have K3:Hid (Nw w w3):=K2.out.trans k3
       clear k3
       go_wp2
       go_ret
       exact ⟨ret_b (by rw [hf3.out];cases T3 <;> rfl),K3.out⟩
def PlainIn (q:Int):Prop:=∀(x y a b c d e f g h i j k n:Int) (w:World),0≤n→n≤100000 →
  Calls Tryz.prog 77 #[insV ⟨q,x,y,⟨⟨a,b,c⟩,d,⟨e,f,g⟩,h,⟨i,j,k⟩⟩⟩,.int .i64 n] w fun en w'=>en=.returned (.bool (insIsB ⟨q,x,y,⟨⟨a,b,c⟩,d,⟨e,f,g⟩,h,⟨i,j,k⟩⟩⟩ n))∧Nw w w'
theorem isInsP_q0:PlainIn 0:=by
 intro x y a b c d e f g h i j k n w hn0 hn1
 unfold insV
 go_enter Tryz.func77,Tryz.ntmps77
 go_wp2_with (go_at_call 102;refine (isWithin_any _ _ _).mono ?_;rintro e1 w1 ⟨rfl,rfl⟩)
 all_goals go_ret
 all_goals refine ⟨ret_b ?_,(Kp.refl _ _).alloc _⟩
 all_goals (rw [Bool.eq_iff_iff];simp [insIsB,hiOf,tst0B,tm0B,withinB] at *;try omega)
theorem isInsP_q1:PlainIn 1:=by
 intro x y a b c d e f g h i j k n w hn0 hn1
 unfold insV
 go_enter Tryz.func77,Tryz.ntmps77
 go_wp2_with (go_at_call 102;refine (isWithin_any _ _ _).mono ?_;rintro e1 w1 ⟨rfl,rfl⟩)
 all_goals go_ret
 all_goals refine ⟨ret_b ?_,(Kp.refl _ _).alloc _⟩
 all_goals (rw [Bool.eq_iff_iff];simp [insIsB,hiOf,tst0B,tm0B,withinB] at *;try omega)
theorem isInsP_q3:PlainIn 3:=by
 intro x y a b c d e f g h i j k n w hn0 hn1
 unfold insV
 go_enter Tryz.func77,Tryz.ntmps77
 go_wp2_with (go_at_call 102;refine (isWithin_any _ _ _).mono ?_;rintro e1 w1 ⟨rfl,rfl⟩)
 all_goals go_ret
 all_goals refine ⟨ret_b ?_,(Kp.refl _ _).alloc _⟩
 all_goals (rw [Bool.eq_iff_iff];simp [insIsB,hiOf,tst0B,tm0B,withinB] at *;try omega)
theorem isInsP_q4:PlainIn 4:=by
 intro x y a b c d e f g h i j k n w hn0 hn1
 unfold insV
 go_enter Tryz.func77,Tryz.ntmps77
 go_wp2_with (go_at_call 102;refine (isWithin_any _ _ _).mono ?_;rintro e1 w1 ⟨rfl,rfl⟩)
 all_goals go_ret
 all_goals refine ⟨ret_b ?_,(Kp.refl _ _).alloc _⟩
 all_goals (rw [Bool.eq_iff_iff];simp [insIsB,hiOf,tst0B,tm0B,withinB] at *;try omega)
theorem isInsP_q5:PlainIn 5:=by
 intro x y a b c d e f g h i j k n w hn0 hn1
 unfold insV
 go_enter Tryz.func77,Tryz.ntmps77
 go_wp2_with (go_at_call 102;refine (isWithin_any _ _ _).mono ?_;rintro e1 w1 ⟨rfl,rfl⟩)
 all_goals go_ret
 all_goals refine ⟨ret_b ?_,(Kp.refl _ _).alloc _⟩
 all_goals (rw [Bool.eq_iff_iff];simp [insIsB,hiOf,tst0B,tm0B,withinB] at *;try omega)
theorem isInsP_q6:PlainIn 6:=by
 intro x y a b c d e f g h i j k n w hn0 hn1
 unfold insV
 go_enter Tryz.func77,Tryz.ntmps77
 go_wp2_with (go_at_call 102;refine (isWithin_any _ _ _).mono ?_;rintro e1 w1 ⟨rfl,rfl⟩)
 all_goals go_ret
 all_goals refine ⟨ret_b ?_,(Kp.refl _ _).alloc _⟩
 all_goals (rw [Bool.eq_iff_iff];simp [insIsB,hiOf,tst0B,tm0B,withinB] at *;try omega)
theorem isInsP_q2:PlainIn 2:=by
 intro x y a b c d e f g h i j k n w hn0 hn1
 unfold insV
 generalize hT:tstIsB ⟨⟨a,b,c⟩,d,⟨e,f,g⟩,h,⟨i,j,k⟩⟩=T
 by_cases hx:x=0
 ·subst hx
  by_cases hy:y=0
  ·subst hy
   go_enter Tryz.func77,Tryz.ntmps77
   go_wp2_with (go_at_call 101;refine (isTestP_any a b c d e f g h i j k _).mono ?_;rw [hT];rintro e1 w1 ⟨rfl,k1⟩)
   all_goals go_ret
   all_goals refine ⟨ret_b ?_,((Kp.refl _ w).alloc _).trans k1⟩
   all_goals (rw [Bool.eq_iff_iff];simp only [insIsB,hT];cases T <;> simp [hiOf] at * <;> try omega)
  ·go_enter Tryz.func77,Tryz.ntmps77
   go_wp2
   all_goals go_ret
   all_goals refine ⟨ret_b ?_,(Kp.refl _ _).alloc _⟩
   all_goals (rw [Bool.eq_iff_iff];simp only [insIsB,hT];cases T <;> simp [hiOf] at * <;> try omega)
 ·go_enter Tryz.func77,Tryz.ntmps77
  go_wp2
  all_goals go_ret
  all_goals refine ⟨ret_b ?_,(Kp.refl _ _).alloc _⟩
  all_goals (rw [Bool.eq_iff_iff];simp only [insIsB,hT];cases T <;> simp [hiOf] at * <;> try omega)
theorem isInsP_off (q:Int) (hq:q<0∨6<q):PlainIn q:=by
 intro x y a b c d e f g h i j k n w hn0 hn1
 unfold insV
 have hq':Hid (q<0∨6<q):=hq
 have q0:(q == 0)=false:=by simp;omega
 have q1:(q == 1)=false:=by simp;omega
 have q2:(q == 2)=false:=by simp;omega
 have q3:(q == 3)=false:=by simp;omega
 have q4:(q == 4)=false:=by simp;omega
 have q5:(q == 5)=false:=by simp;omega
 have q6:(q == 6)=false:=by simp;omega
 clear hq
 go_enter Tryz.func77,Tryz.ntmps77
 go_wp2
 all_goals go_ret
 all_goals refine ⟨ret_b ?_,(Kp.refl _ _).alloc _⟩
 all_goals (have hq:=hq'.out;rw [Bool.eq_iff_iff];simp [insIsB];omega)
theorem isInsP_any (x:In) (n:Int) (w:World) (h0:0≤n) (h1:n≤100000):Calls Tryz.prog 77 #[insV x,.int .i64 n] w fun en w'=>en=.returned (.bool (insIsB x n))∧Nw w w':=by
 obtain ⟨q,x,y,⟨⟨a,b,c⟩,d,⟨e,f,g⟩,h,⟨i,j,k⟩⟩⟩:=x
 have H:PlainIn q:=by
  by_cases h1:q<0∨6<q
  ·exact isInsP_off q h1
  ·have:q=0∨q=1∨q=2∨q=3∨q=4∨q=5∨q=6:=by omega
   rcases this with rfl|rfl|rfl|rfl|rfl|rfl|rfl
   ·exact isInsP_q0
   ·exact isInsP_q1
   ·exact isInsP_q2
   ·exact isInsP_q3
   ·exact isInsP_q4
   ·exact isInsP_q5
   ·exact isInsP_q6
 exact H x y a b c d e f g h i j k n w h0 h1
def CodeP (w:World) (p:Option Addr) (l:List In):Prop:=¬l=[]→∃g,p=some ⟨g,0,none⟩∧Code' w g l
theorem CodeP.nw {w w':World} {p:Option Addr} {l:List In} (h:CodeP w p l) (k:Nw w w'):CodeP w' p l:=by
 intro hne
 obtain ⟨g,e,hc⟩:=h hne
 exact ⟨g,e,hc.kp k (fun h=>h)⟩
def ValidPost (w:World) (l:List In) (e:Ending) (w':World):Prop:=∃a b,e=.returned (.tuple #[.int .i64 a,.int .i64 b])∧ValidIs l a b∧Nw w w'
theorem eqb_false {a b:Int} (h:¬a=b):(a == b)=false:=by simp [h]
theorem ends_not (x:In):(!(decide (x.op=4)||decide (x.op=5)||decide (x.op=6))) = !endsB x:=rfl
theorem firstNoneP_any (p:Option Addr) (cap:Nat) (l:List In) (w:World) (hp:CodeP w p l) (hn:l.length≤1000) :
  Calls Tryz.prog 50 #[.slice p l.length cap] w fun e w'=>e=.returned (.int .i64 (firstNone l))∧Nw w w':=by
 go_enter Tryz.func50,Tryz.ntmps50
 go_wp2
 go_loopg [3] l.length (fun m v3 wr=>∃i:Nat,v3=.int .i64 i∧m=l.length - i∧i≤l.length∧noneFrom l.length i (l.drop i)=firstNone l∧CodeP wr p l∧Nw w wr)
 case atStart=>exact ⟨0,rfl,rfl,by omega,rfl,hp,Kp.refl _ _⟩
 case round =>
  obtain ⟨i,rfl,hm',hi,hfn,hcp,hnw⟩:=hrel
  by_cases hi':i<l.length
  ·obtain ⟨x,hx⟩:∃x,l[i]? = some x:=⟨l[i],by simp [hi']⟩
   obtain ⟨g,rfl,hcr⟩:=hcp (by intro e;rw [e] at hx;simp at hx)
   obtain ⟨c0,c1,c2,c3,c4,c5,c6,c7,c8,c9,c10,c11,c12,c13⟩:=(hcr.ins i x hx).cells
   rw [drop_cons hx] at hfn
   have HP:Hid (CodeP wr (some ⟨g,0,none⟩) l):=hcp
   generalize hT:insIsB x (l.length:Int)=T
   go_wp2_with fail
   refine (isInsP_any x l.length wr (by omega) (by omega)).mono ?_
   rw [hT]
   rintro e w2 ⟨rfl,k2⟩
   have HC:Hid (CodeP w2 (some ⟨g,0,none⟩) l):=HP.out.nw k2
   have HK:Hid (Nw w w2):=hnw.trans k2
   have HF:Hid (noneFrom l.length i (x::l.drop (i+1))=firstNone l):=hfn
   have HT:Hid (insIsB x (l.length:Int)=T):=hT
   have d0:w2.cell? ⟨g,i*14,none⟩=some (.int .i64 x.op):=(k2.cell (p:=⟨g,i*14,none⟩) hcr.lt (fun h=>h)).trans c0
   clear c0 c1 c2 c3 c4 c5 c6 c7 c8 c9 c10 c11 c12 c13 hcr hnw k2 hfn hT hcp HP
   cases T with
   | false =>
    have hstop:Hid (firstNone l=i):=by
     show _=_
     rw [←HF.out];exact noneFrom_stop (by rw [HT.out];simp)
    go_wp2
    go_ret
    exact ⟨by rw [hstop.out];rfl,HK.out⟩
   | true =>
    by_cases hlast:i+1=l.length
    ·have hl1:((i:Int) == (l.length:Int) - 1)=true:=by simp;omega
     generalize hE:endsB x=E
     cases E with
     | true =>
      have hgo:Hid (noneFrom l.length (i+1) (l.drop (i+1))=firstNone l):=by
       show _=_
       rw [←HF.out];exact (noneFrom_step HT.out (fun _=>hE)).symm
      go_wp2_with (go_at_call 78;refine (goesOnBehind_any x.op _).mono ?_;rw [ends_not,hE];rintro e1 w3 ⟨rfl,rfl⟩)
      go_roundg (l.length - (i+1))
      case measure=>omega
      case rel=>exact ⟨i+1,by simp,rfl,by omega,hgo.out,HC.out,HK.out⟩
     | false =>
      have hstop:Hid (firstNone l=i):=by
       show _=_
       rw [←HF.out];exact noneFrom_stop (fun h=>by have:=h.2 hlast;rw [hE] at this;cases this)
      go_wp2_with (go_at_call 78;refine (goesOnBehind_any x.op _).mono ?_;rw [ends_not,hE];rintro e1 w3 ⟨rfl,rfl⟩)
      go_ret
      exact ⟨by rw [hstop.out];rfl,HK.out⟩
    ·have hl1:((i:Int) == (l.length:Int) - 1)=false:=eqb_false (by omega)
     have hgo:Hid (noneFrom l.length (i+1) (l.drop (i+1))=firstNone l):=by
      show _=_
      rw [←HF.out];exact (noneFrom_step HT.out (fun e=>absurd e hlast)).symm
     go_wp2
     go_roundg (l.length - (i+1))
     case measure=>omega
     case rel=>exact ⟨i+1,by simp,rfl,by omega,hgo.out,HC.out,HK.out⟩
  ·have hfull:firstNone l=l.length:=by
    rw [←hfn,List.drop_eq_nil_of_le (by omega)]
    simp [noneFrom];omega
   go_wp2
   go_ret
   exact ⟨by rw [hfull];rfl,hnw⟩
theorem firstOnRoundP_any (g cap:Nat) (l:List In) (w:World) (hc:Code' w g l) (hA:AllIns l) (hn:l.length≤1000) :
  Calls Tryz.prog 51 #[.slice (some ⟨g,0,none⟩) l.length cap] w fun e w'=>∃k:Nat,e=.returned (.int .i64 k)∧RndFrom l 0 k∧Nw w w':=by
 go_enter Tryz.func51,Tryz.ntmps51
 go_wp2
 go_loopg [3] l.length (fun m v3 wr=>∃i:Nat,v3=.int .i64 i∧m=l.length - i∧i≤l.length∧(∀j,j<i→¬Rch l false j j)∧Code' wr g l∧Nw w wr)
 case atStart=>exact ⟨0,rfl,rfl,by omega,(fun j hj=>by omega),hc,Kp.refl _ _⟩
 case round =>
  obtain ⟨k,rfl,hm2,hk,hno,hcr,hnw⟩:=hrel
  have HN:Hid (∀j,j<k→¬Rch l false j j):=hno
  clear hno
  by_cases hk':k<l.length
  ·go_wp2_with fail
   refine (comesBack_any g cap k l wr hcr hA hk' hn).mono ?_
   rintro e w2 ⟨b,rfl,hb,k2⟩
   have HC2:Hid (Code' w2 g l):=hcr.kp k2 (fun h=>h)
   have HK2:Hid (Nw w w2):=hnw.trans k2
   have HB:Hid (b=true↔Rch l false k k):=hb
   clear hb hcr hnw k2
   cases b with
   | true =>
    go_wp2
    go_ret
    exact ⟨k,rfl,rnd_from HN.out hk' (HB.out.1 (by simp)),HK2.out⟩
   | false =>
    go_wp2
    go_roundg (l.length - (k+1))
    case measure=>omega
    case rel =>
     refine ⟨k+1,by simp,rfl,by omega,?_,HC2.out,HK2.out⟩
     intro j hj
     by_cases e:j=k
     ·subst e
      intro hr
      have:=HB.out.2 hr
      simp at this
     ·exact HN.out j (by omega)
  ·go_wp2
   go_ret
   have e:k=l.length:=by omega
   have hno:=HN.out
   rw [e] at hno
   exact ⟨l.length,rfl,rnd_none hno,hnw⟩
theorem validP_any (p:Option Addr) (cap:Nat) (l:List In) (w:World) (hp:CodeP w p l) (hm:l.length≤maxLen) :
  Calls Tryz.prog 32 #[.slice p l.length cap] w (ValidPost w l):=by
 unfold maxLen at hm
 by_cases hbig:1000<l.length
 ·go_enter Tryz.func32,Tryz.ntmps32
  go_wp2
  go_ret2
  exact ⟨5,0,rfl,Or.inl ⟨hbig,rfl,rfl⟩,Kp.refl _ _⟩
 have hn:l.length≤1000:=by omega
 have hfl:=noneFrom_le l.length l 0
 have hfl2:firstNone l≤l.length:=by have:=hfl.2;simpa [firstNone] using this
 clear hfl
 go_enter Tryz.func32,Tryz.ntmps32
 go_wp2_with fail
 refine (firstNoneP_any p cap l w hp hn).mono ?_
 rintro e w2 ⟨rfl,k2⟩
 have HP:Hid (CodeP w2 p l):=hp.nw k2
 have HK:Hid (Nw w w2):=k2
 clear hp k2
 generalize hf:firstNone l=f at *
 by_cases hnil:l=[]
 ·subst hnil
  go_wp2
  go_ret2
  exact ⟨7,f,rfl,Or.inr (Or.inl ⟨by simp,Or.inl rfl,rfl,by rw [hf]⟩),HK.out⟩
 have hpos:0<l.length:=List.length_pos_iff.2 hnil
 have hz:((l.length:Int) == 0)=false:=eqb_false (by omega)
 by_cases hlt:f<l.length
 ·go_wp2
  go_ret2
  exact ⟨7,f,rfl,Or.inr (Or.inl ⟨hn,Or.inr (by rw [hf];exact hlt),rfl,by rw [hf]⟩),HK.out⟩
 have hff:firstNone l=l.length:=by omega
 obtain ⟨g,rfl,hcr⟩:=HP.out hnil
 go_wp2_with fail
 refine (firstOnRoundP_any g cap l w2 hcr (allIns_of hff) hn).mono ?_
 rintro e w3 ⟨k,rfl,hr,k3⟩
 have HR:Hid (RndFrom l 0 k):=hr
 have HK3:Hid (Nw w w3):=HK.out.trans k3
 have hkl:=hr.2.1
 clear hr k3 hcr
 by_cases hk:k<l.length
 ·go_wp2
  go_ret2
  exact ⟨8,k,rfl,Or.inr (Or.inr (Or.inl ⟨hn,hnil,hff,k,HR.out,hk,rfl,rfl⟩)),HK3.out⟩
 ·have e:k=l.length:=by omega
  go_wp2
  go_ret2
  have h1:=HR.out
  rw [e] at h1
  exact ⟨0,0,rfl,Or.inr (Or.inr (Or.inr ⟨hn,hnil,hff,h1,rfl,rfl⟩)),HK3.out⟩
theorem paf_inPlace:(Rows.pairsRow.inPlace == Tryz.pinned.checked.prog.inPlace 3)=true:=by kernel_rfl
theorem paf_unfollowed:(Rows.pairsRow.unfollowed == Tryz.pinned.checked.prog.unfollowed 3)=true:=by kernel_rfl
theorem paf_recurses:(Rows.pairsRow.recurses == Tryz.pinned.checked.prog.recurses 3)=true:=by kernel_rfl
theorem paf_named:(Rows.pairsRow.named == Tryz.pinned.checked.prog.varsNamed 3)=true:=by kernel_rfl
theorem paf_closed:joinedFacts Tryz.pinned.checked.prog 3 Tryz.f3 Rows.pairsSpec Rows.pairsRow=true:=by
 unfold joinedFacts
 rw [paf_inPlace,paf_unfollowed,paf_recurses,paf_named]
 kernel_rfl
end Go.Proofs.YtcboiapggnmpfaaGreatDoor
