import Derived.Test.YtcboiapggnmpfabGreatQal
import Derived.Test.YtcboiapggnmpfabGreatQae
import Derived.Deep.QuietTactic
import Derived.BigQuiet
import Derived.Test.YtcboiapggnmpfabGreatQaa
namespace Go.Proofs.YtcboiapggnmpfabGreat
set_option maxRecDepth 100000
set_option maxHeartbeats 2000000
set_option linter.unusedSimpArgs false
set_option linter.unusedVariables false
open Go.RowKit
theorem wrap_small (n:Nat) (h:n<9223372036854775808):IntKind.i64.wrap (n:Int)=n:=by rw [IntKind.wrap_i64];omega
theorem bv_small (n:Nat) (h:n<2 ^ 64):(BitVec.ofInt 64 (n:Int)).toNat=n:=by
 simp only [BitVec.toNat_ofInt]
 omega
theorem bits_or (m n:Nat) (hm:m<2 ^ 26) (hn:n<2 ^ 26):bits .or .i64 (m:Int) (n:Int)=((m ||| n:Nat):Int):=by
 have h1:=bv_small m (by omega)
 have h2:=bv_small n (by omega)
 have h3:m ||| n<2 ^ 26:=Nat.or_lt_two_pow hm hn
 have h4:(BitVec.ofInt 64 (m:Int) ||| BitVec.ofInt 64 (n:Int)).toNat=m ||| n:=by rw [BitVec.toNat_or,h1,h2]
 show IntKind.i64.wrap ((BitVec.ofInt 64 (m:Int) ||| BitVec.ofInt 64 (n:Int)).toNat:Int)=_
 rw [h4]
 exact wrap_small (m ||| n) (by omega)
theorem bits_and (m n:Nat) (hm:m<2 ^ 26) (hn:n<2 ^ 26):bits .and .i64 (m:Int) (n:Int)=((m &&& n:Nat):Int):=by
 have h1:=bv_small m (by omega)
 have h2:=bv_small n (by omega)
 have h3:m &&& n<2 ^ 26:=Nat.and_lt_two_pow m hn
 have h4:(BitVec.ofInt 64 (m:Int) &&& BitVec.ofInt 64 (n:Int)).toNat=m &&& n:=by rw [BitVec.toNat_and,h1,h2]
 show IntKind.i64.wrap ((BitVec.ofInt 64 (m:Int) &&& BitVec.ofInt 64 (n:Int)).toNat:Int)=_
 rw [h4]
 exact wrap_small (m &&& n) (by omega)
def onlyN (n:Int):Nat:=if 0≤n∧n<26 then 2 ^ n.toNat else 0
theorem onlyN_lt (n:Int):onlyN n<2 ^ 26:=by
 unfold onlyN
 split
 ·exact Nat.pow_lt_pow_right (by omega) (by omega)
 ·omega
theorem only_any (n:Int) (w:World) :
  Calls Tryz.prog 118 #[.int .i64 n] w fun e w'=>e=.returned (.int .i64 (onlyN n:Nat))∧w'=w:=by
 by_cases h:0≤n∧n<26
 ·obtain ⟨h0,h1⟩:=h
  have e:onlyN n=2 ^ n.toNat:=by simp [onlyN,h0,h1]
  have hlt:=onlyN_lt n
  rw [e] at hlt ⊢
  have hw:wrap64 (2 ^ n.toNat)=((2 ^ n.toNat:Nat):Int):=by
   have:=wrap_small (2 ^ n.toNat) (by omega)
   rw [←this]
   simp [wrap64,IntKind.wrap_i64]
  go_enter Tryz.func118,Tryz.ntmps118
  go_wp2
  go_ret
  exact ⟨by rw [←hw];rfl,rfl⟩
 ·have e:onlyN n=0:=by simp only [onlyN,if_neg h]
  rw [e]
  by_cases h0:n<0
  ·go_enter Tryz.func118,Tryz.ntmps118
   go_wp2
   go_ret
   exact ⟨rfl,rfl⟩
  ·have h1:26≤n:=by omega
   go_enter Tryz.func118,Tryz.ntmps118
   go_wp2
   go_ret
   exact ⟨rfl,rfl⟩
def hasN (m:Nat) (n:Int):Bool:=(m &&& onlyN n) != 0
theorem hasN_iff (m:Nat) (n:Nat) (h:n<26):hasN m (n:Int)=m.testBit n:=by
 have e:onlyN (n:Int)=2 ^ n:=by simp [onlyN];omega
 unfold hasN
 rw [e]
 cases ht:m.testBit n with
 | true =>
  rw [bne_iff_ne]
  intro hz
  have:(m &&& 2 ^ n).testBit n=true:=by rw [Nat.testBit_and,ht,Nat.testBit_two_pow_self];rfl
  rw [hz] at this
  simp at this
 | false =>
  have:m &&& 2 ^ n=0:=by
   apply Nat.eq_of_testBit_eq
   intro i
   rw [Nat.testBit_and,Nat.zero_testBit]
   by_cases hi:n=i
   ·subst hi;rw [ht];rfl
   ·rw [Nat.testBit_two_pow_of_ne hi];simp
  rw [this];rfl
theorem hasSet_any (m:Nat) (n:Int) (w:World) (hm:m<2 ^ 26) :
  Calls Tryz.prog 100 #[.int .i64 m,.int .i64 n] w fun e w'=>e=.returned (.bool (hasN m n))∧w'=w:=by
 have hb:=bits_and m (onlyN n) hm (onlyN_lt n)
 go_enter Tryz.func100,Tryz.ntmps100
 go_wp2_with fail
 refine (only_any n w).mono ?_
 rintro e w1 ⟨rfl,rfl⟩
 go_wp2
 go_ret
 refine ⟨ret_b ?_,rfl⟩
 unfold hasN
 simp only [bne,hb]
 cases hq:(m &&& onlyN n) == 0 with
 | true=>simp at hq;simp [hq]
 | false=>simp at hq;simp [hq]
theorem Tryz.rowH:(Tryz.prog.underlying 152).map TypeDesc.isRow=some true:=by kernel_rfl
theorem Tryz.sizeH:(Tryz.prog.info? 152).map (·.size)=some 2:=by kernel_rfl
theorem load_held (w:World) (B:Nat) (a b:Int) (h0:w.cell? ⟨B,0,none⟩=some (.int .i64 a)) (h1:w.cell? ⟨B,1,none⟩=some (.int .i64 b)):(loadVar 152 ⟨B,0,none⟩).run Tryz.prog w=.ok (.agg #[.int .i64 a,.int .i64 b]) w:=by
 obtain ⟨dd,hu,hd⟩:=Option.map_eq_some_iff.1 Tryz.rowH
 refine run_loadVar_mid w B 0 152 [.int .i64 a,.int .i64 b] dd ?_ hu hd Tryz.sizeH
 intro k v hv
 rw [Nat.zero_add]
 match k,hv with
 | 0,hv=>simp at hv;rw [h0,hv]
 | 1,hv=>simp at hv;rw [h1,hv]
theorem results_cX {fn:Func} {a:Tmp} {t:TypeId} (h:fn.results=#[.cell a t]) (tmps:Array Value) (P:Program) (w:World) (b:Addr) (hp:tmps.getD a undef=.pointer (some b)) (v:Value) (hl:(loadVar t b).run P w=.ok v w):(results fn tmps).run P w=.ok v w:=by
 have hp':tmps[a]?.getD undef=.pointer (some b):=by simpa using hp
 simp [results,h,hp',asAddr,hl]
theorem heldAnd_any (a b c d:Nat) (w:World) (ha:a<2 ^ 26) (hb:b<2 ^ 26) (hc:c<2 ^ 26) (hd:d<2 ^ 26) :
  Calls Tryz.prog 99 #[.agg #[.int .i64 a,.int .i64 b],.agg #[.int .i64 c,.int .i64 d]] w fun e w'=>e=.returned (.agg #[.int .i64 (a ||| c:Nat),.int .i64 (b ||| d:Nat)])∧Nw w w':=by
 have e1:=bits_or a c ha hc
 have e2:=bits_or b d hb hd
 go_enter Tryz.func99,Tryz.ntmps99
 go_wp2
 refine bodyPost_ret (results_cX Tryz.results99 _ _ _ ⟨w.heap.size+2,0,none⟩ rfl _ (load_held _ _ (a ||| c:Nat) (b ||| d:Nat) ?_ ?_)) rfl ?_
 ·simp [go_sem,World.cell?_alloc_at]
 ·simp [go_sem,World.cell?_alloc_at]
 ·exact ⟨rfl,(((Kp.refl _ _).alloc _).alloc _).alloc _⟩
theorem heldOr_any (a b c d:Nat) (w:World) (ha:a<2 ^ 26) (hb:b<2 ^ 26) (hc:c<2 ^ 26) (hd:d<2 ^ 26) :
  Calls Tryz.prog 119 #[.agg #[.int .i64 a,.int .i64 b],.agg #[.int .i64 c,.int .i64 d]] w fun e w'=>e=.returned (.agg #[.int .i64 (a ||| c:Nat),.int .i64 (b &&& d:Nat)])∧Nw w w':=by
 have e1:=bits_or a c ha hc
 have e2:=bits_and b d hb hd
 go_enter Tryz.func119,Tryz.ntmps119
 go_wp2
 refine bodyPost_ret (results_cX Tryz.results119 _ _ _ ⟨w.heap.size+2,0,none⟩ rfl _ (load_held _ _ (a ||| c:Nat) (b &&& d:Nat) ?_ ?_)) rfl ?_
 ·simp [go_sem,World.cell?_alloc_at]
 ·simp [go_sem,World.cell?_alloc_at]
 ·exact ⟨rfl,(((Kp.refl _ _).alloc _).alloc _).alloc _⟩
def onlyS (p:Nat):Nat:=if p≤24 then 2 ^ p else 0
theorem onlyS_lt (p:Nat):onlyS p<2 ^ 25:=by
 unfold onlyS
 split
 ·exact Nat.pow_lt_pow_right (by omega) (by omega)
 ·omega
theorem onlyS_any (p:Nat) (w:World) (hp:p≤100000) :
  Calls Tryz.prog 80 #[.int .i64 p] w fun e w'=>e=.returned (.int .i64 (onlyS p:Nat))∧w'=w:=by
 by_cases h:p≤24
 ·have e:onlyS p=2 ^ p:=by simp [onlyS,h]
  have hlt:=onlyS_lt p
  rw [e] at hlt ⊢
  have hw:wrap64 (2 ^ p)=((2 ^ p:Nat):Int):=by
   have:=wrap_small (2 ^ p) (by omega)
   rw [←this]
   simp [wrap64,IntKind.wrap_i64]
  go_enter Tryz.func80,Tryz.ntmps80
  go_wp2
  go_ret
  exact ⟨by rw [←hw];rfl,rfl⟩
 ·have e:onlyS p=0:=by simp [onlyS,h]
  rw [e]
  go_enter Tryz.func80,Tryz.ntmps80
  go_wp2
  go_ret
  exact ⟨rfl,rfl⟩
def hasS (s p:Nat):Bool:=(s &&& onlyS p) != 0
theorem bits_and25 (m n:Nat) (hm:m<2 ^ 25) (hn:n<2 ^ 25):bits .and .i64 (m:Int) (n:Int)=((m &&& n:Nat):Int):=bits_and m n (by omega) (by omega)
theorem bits_or25 (m n:Nat) (hm:m<2 ^ 25) (hn:n<2 ^ 25):bits .or .i64 (m:Int) (n:Int)=((m ||| n:Nat):Int):=bits_or m n (by omega) (by omega)
theorem hasS_any (s p:Nat) (w:World) (hs:s<2 ^ 25) (hp:p≤100000) :
  Calls Tryz.prog 84 #[.int .i64 s,.int .i64 p] w fun e w'=>e=.returned (.bool (hasS s p))∧w'=w:=by
 have hb:=bits_and25 s (onlyS p) hs (onlyS_lt p)
 go_enter Tryz.func84,Tryz.ntmps84
 go_wp2_with fail
 refine (onlyS_any p w hp).mono ?_
 rintro e w1 ⟨rfl,rfl⟩
 go_wp2
 go_ret
 refine ⟨ret_b ?_,rfl⟩
 unfold hasS
 simp only [bne,hb]
 cases hq:(s &&& onlyS p) == 0 with
 | true=>simp at hq;simp [hq]
 | false=>simp at hq;simp [hq]
def cntS (s:Nat):Nat→Nat
 | 0=>0
 | n+1=>cntS s n+if hasS s n=true then 1 else 0
theorem cntS_le (s:Nat):∀n,cntS s n≤n:=by
 intro n
 induction n with
 | zero=>exact Nat.le_refl _
 | succ n ih=>simp only [cntS];split <;> omega
def countS (s:Nat):Nat:=cntS s 25
theorem countS_any (s:Nat) (w:World) (hs:s<2 ^ 25) :
  Calls Tryz.prog 83 #[.int .i64 s] w fun e w'=>e=.returned (.int .i64 (countS s:Nat))∧w'=w:=by
 have HH:Hid (∀p W,p≤100000→Calls Tryz.prog 84 #[.int .i64 s,.int .i64 (p:Nat)] W fun e w'=>e=.returned (.bool (hasS s p))∧w'=W):=fun p W hp=>hasS_any s p W hs hp
 go_enter Tryz.func83,Tryz.ntmps83
 go_wp2
 go_loopg [3,4] 25 (fun m v3 v4 wr=>∃i:Nat,v3=.int .i64 (cntS s i:Nat)∧v4=.int .i64 i∧m=25 - i∧i≤25∧wr=w)
 case atStart=>exact ⟨0,rfl,rfl,rfl,by omega,rfl⟩
 case round =>
  obtain ⟨i,rfl,rfl,hm,hi,rfl⟩:=hrel
  have HM:Hid (_=25 - i):=hm
  have hc:=cntS_le s i
  clear hm
  by_cases hil:i<25
  ·have hstep:cntS s (i+1)=cntS s i+if hasS s i=true then 1 else 0:=rfl
   have HS:Hid (cntS s (i+1)=cntS s i+if hasS s i=true then 1 else 0):=hstep
   clear hstep
   go_wp2_with fail
   refine (HH.out i _ (by omega)).mono ?_
   rintro e w1 ⟨rfl,hw1⟩
   have hw2:=hw1.symm
   subst hw2
   clear hw1
   generalize hasS s i=hb at *
   generalize cntS s i=ci at *
   cases hb with
   | false =>
    go_wp2
    go_roundg (25 - (i+1))
    case measure=>rw [HM.out];omega
    case rel=>exact ⟨i+1,by rw [HS.out];simp,by simp,rfl,by omega,rfl⟩
   | true =>
    go_wp2
    go_roundg (25 - (i+1))
    case measure=>rw [HM.out];omega
    case rel=>exact ⟨i+1,by rw [HS.out];simp,by simp,rfl,by omega,rfl⟩
  ·have hie:i=25:=by omega
   subst hie
   go_wp2
   go_ret
   exact ⟨rfl,rfl⟩
def In64 (x:Int):Prop := -9223372036854775808≤x∧x≤9223372036854775807
instance (x:Int):Decidable (In64 x):=by unfold In64;infer_instance
theorem sum_bool {a b:Int} (ha:In64 a) (hb:In64 b):(decide (0≤b) == decide (a≤wrap64 (a+b)))=decide (In64 (a+b)):=by
 rw [Bool.eq_iff_iff]
 simp only [beq_iff_eq,decide_eq_decide,decide_eq_true_eq]
 unfold In64 at *
 unfold wrap64
 omega
theorem diff_bool {a b:Int} (ha:In64 a) (hb:In64 b):(decide (0≤b) == decide (wrap64 (a - b)≤a))=decide (In64 (a - b)):=by
 rw [Bool.eq_iff_iff]
 simp only [beq_iff_eq,decide_eq_decide,decide_eq_true_eq]
 unfold In64 at *
 unfold wrap64
 omega
theorem sum_any (a b:Int) (ha:In64 a) (hb:In64 b) (w:World) :
  Calls Tryz.prog 132 #[.int .i64 a,.int .i64 b] w fun e w'=>e=.returned (.tuple #[.int .i64 (wrap64 (a+b)),.bool (decide (In64 (a+b)))])∧w'=w:=by
 have HB:Hid ((decide (0≤b) == decide (a≤wrap64 (a+b)))=decide (In64 (a+b))):=sum_bool ha hb
 obtain ⟨ha1,ha2⟩:=ha
 obtain ⟨hb1,hb2⟩:=hb
 go_enter Tryz.func132,Tryz.ntmps132
 go_wp2
 go_ret2
 exact ⟨by rw [←HB.out];rfl,rfl⟩
theorem diff_any (a b:Int) (ha:In64 a) (hb:In64 b) (w:World) :
  Calls Tryz.prog 133 #[.int .i64 a,.int .i64 b] w fun e w'=>e=.returned (.tuple #[.int .i64 (wrap64 (a - b)),.bool (decide (In64 (a - b)))])∧w'=w:=by
 have HB:Hid ((decide (0≤b) == decide (wrap64 (a - b)≤a))=decide (In64 (a - b))):=diff_bool ha hb
 obtain ⟨ha1,ha2⟩:=ha
 obtain ⟨hb1,hb2⟩:=hb
 go_enter Tryz.func133,Tryz.ntmps133
 go_wp2
 go_ret2
 exact ⟨by rw [←HB.out];rfl,rfl⟩
theorem prod_bool {a b:Int} (ha:In64 a) (hb:In64 b) (h0:¬b=0) (h1:¬b = -1):((wrap64 (a*b)).tdiv b == a)=decide (In64 (a*b)):=by
 by_cases h:In64 (a*b)
 ·have e:wrap64 (a*b)=a*b:=by unfold wrap64;unfold In64 at h;omega
  rw [e,Int.mul_tdiv_cancel _ h0]
  simp [h]
 ·have hne:¬(wrap64 (a*b)).tdiv b=a:=by
   intro e
   obtain ⟨k,hk⟩:∃k:Int,wrap64 (a*b)=a*b - k*18446744073709551616:=by
    refine ⟨(a*b+9223372036854775808) / 18446744073709551616,?_⟩
    unfold wrap64
    omega
   have hk0:¬k=0:=by
    intro hk0
    subst hk0
    apply h
    have e2:wrap64 (a*b)=a*b:=by omega
    rw [←e2]
    unfold In64 wrap64
    omega
   have hd:=Int.tmod_add_mul_tdiv (wrap64 (a*b)) b
   rw [e] at hd
   have hm:((wrap64 (a*b)).tmod b).natAbs<b.natAbs:=by
    rw [Int.natAbs_tmod]
    exact Nat.mod_lt _ (by omega)
   have hcomm:b*a=a*b:=Int.mul_comm b a
   unfold In64 at hb
   generalize a*b=ab at *
   generalize wrap64 ab=wv at *
   omega
  simp [h,hne]
theorem wrap64_is (n:Int):In64 (wrap64 n):=by unfold In64 wrap64;omega
theorem quo_in {p b:Int} (hp:In64 p) (h0:¬b=0) (h1:¬b = -1):wrap64 (p.tdiv b)=p.tdiv b:=by
 suffices hr:In64 (p.tdiv b) by unfold In64 at hr;unfold wrap64;omega
 unfold In64 at hp ⊢
 by_cases hb:b=1
 ·subst hb;rw [Int.tdiv_one];exact hp
 ·have h2:2≤b.natAbs:=by omega
  have hq:(p.tdiv b).natAbs=p.natAbs / b.natAbs:=Int.natAbs_tdiv p b
  have hle:p.natAbs / b.natAbs≤p.natAbs / 2:=Nat.div_le_div_left h2 (by omega)
  omega
theorem prod_any (a b:Int) (ha:In64 a) (hb:In64 b) (w:World) :
  Calls Tryz.prog 134 #[.int .i64 a,.int .i64 b] w fun e w'=>e=.returned (.tuple #[.int .i64 (wrap64 (a*b)),.bool (decide (In64 (a*b)))])∧∃n,w'=w.drewN n:=by
 by_cases h1:b = -1
 ·subst h1
  have HD:=diff_any 0 a (by unfold In64;omega) ha w
  have e:a * -1 = -a:=by omega
  go_enter Tryz.func134,Tryz.ntmps134
  go_wp2_with fail
  refine HD.mono ?_
  rintro e1 w1 ⟨rfl,rfl⟩
  go_wp2
  go_ret2
  exact ⟨by rw [e];rfl,0,rfl⟩
 ·by_cases h0:b=0
  ·subst h0
   go_enter Tryz.func134,Tryz.ntmps134
   go_wp2
   go_quiet (fail)
   go_wp2
   go_ret2
   exact ⟨by rw [Int.mul_zero,show wrap64 0=0 from by unfold wrap64;omega,show decide (In64 0)=true from by simp [In64]];rfl,_,rfl⟩
  ·have HB:Hid (((wrap64 (a*b)).tdiv b == a)=decide (In64 (a*b))):=prod_bool ha hb h0 h1
   have HQ:Hid ((wrap64 ((wrap64 (a*b)).tdiv b) == a)=decide (In64 (a*b))):=by show _=_;rw [quo_in (wrap64_is _) h0 h1];exact HB.out
   have hb1:(b == -1)=false:=by simpa using h1
   have hb0:(b == 0)=false:=by simpa using h0
   obtain ⟨ha1,ha2⟩:=ha
   obtain ⟨hb2,hb3⟩:=hb
   go_enter Tryz.func134,Tryz.ntmps134
   go_wp2
   go_quiet (fail)
   go_wp2
   go_ret2
   exact ⟨by rw [←HQ.out];rfl,_,rfl⟩
structure Evt where
 at':Int
 kind:Int
 x:Int
 y:Int
 z:Int
def evV (e:Evt):Value:=.agg #[.int .i64 e.at',.int .i64 e.kind,.int .i64 e.x,.int .i64 e.y,.int .i64 e.z]
def evF (e:Evt) (f:Int):Int:=if f=0 then e.at' else if f=1 then e.x else if f=2 then e.y else if f=3 then e.z else 0
theorem valueE_any (e:Evt) (f:Int) (w:World) :
  Calls Tryz.prog 63 #[evV e,.int .i64 f] w fun r w'=>r=.returned (.int .i64 (evF e f))∧Nw w w':=by
 obtain ⟨a,k,x,y,z⟩:=e
 unfold evV evF
 by_cases h0:f=0
 ·subst h0
  go_enter Tryz.func63,Tryz.ntmps63
  go_wp2
  go_ret
  exact ⟨rfl,(Kp.refl _ w).alloc _⟩
 ·have g0:(f == 0)=false:=by simpa using h0
  by_cases h1:f=1
  ·subst h1
   go_enter Tryz.func63,Tryz.ntmps63
   go_wp2
   go_ret
   exact ⟨rfl,(Kp.refl _ w).alloc _⟩
  ·have g1:(f == 1)=false:=by simpa using h1
   by_cases h2:f=2
   ·subst h2
    go_enter Tryz.func63,Tryz.ntmps63
    go_wp2
    go_ret
    exact ⟨rfl,(Kp.refl _ w).alloc _⟩
   ·have g2:(f == 2)=false:=by simpa using h2
    by_cases h3:f=3
    ·subst h3
     go_enter Tryz.func63,Tryz.ntmps63
     go_wp2
     go_ret
     exact ⟨rfl,(Kp.refl _ w).alloc _⟩
    ·have g3:(f == 3)=false:=by simpa using h3
     rw [if_neg h0,if_neg h1,if_neg h2,if_neg h3]
     go_enter Tryz.func63,Tryz.ntmps63
     go_wp2
     go_ret
     exact ⟨rfl,(Kp.refl _ w).alloc _⟩
def goodF (l:List Int) (e:Evt) (f:Int):Bool:=hasFd l e.kind f||evF e f == 0
def goodE (l:List Int) (e:Evt):Bool:=hasK l e.kind&&decide (0≤e.at')&&decide (e.at'≤1000000000000000)&&goodF l e 1&&goodF l e 2&&goodF l e 3
theorem isGood_any (l : List Int) (hl : l.length ≤ 4) (e : Evt) (w : World) :
    Calls Tryz.prog 42 #[schV l, evV e] w fun r w' => r = .returned (.bool (goodE l e)) ∧ Nw w w' := by
  obtain ⟨a, k, x, y, z⟩ := e
  have HHK : Hid (∀ W, Calls Tryz.prog 61 #[schV l, .int .i64 k] W fun e w' => e = .returned (.bool (hasK l k)) ∧ Nw W w') := fun W => has_any l k W hl
  have HHF : Hid (∀ f W, Calls Tryz.prog 62 #[schV l, .int .i64 k, .int .i64 f] W fun e w' => e = .returned (.bool (hasFd l k f)) ∧ Nw W w') := fun f W => hasField_any l k f W hl
  have HV : Hid (∀ f W, Calls Tryz.prog 63 #[evV ⟨a, k, x, y, z⟩, .int .i64 f] W fun r w' => r = .returned (.int .i64 (evF ⟨a, k, x, y, z⟩ f)) ∧ Nw W w') := fun f W => valueE_any _ f W
  have HG : Hid (goodE l ⟨a, k, x, y, z⟩ = (hasK l k && decide (0 ≤ a) && decide (a ≤ 1000000000000000) && goodF l ⟨a, k, x, y, z⟩ 1 && goodF l ⟨a, k, x, y, z⟩ 2 && goodF l ⟨a, k, x, y, z⟩ 3)) := rfl
  have HGF : Hid (∀ f, goodF l ⟨a, k, x, y, z⟩ f = (hasFd l k f || evF ⟨a, k, x, y, z⟩ f == 0)) := fun f => rfl
  generalize goodE l ⟨a, k, x, y, z⟩ = ge at *
  have HBX : Hid (∀ W, Nw ((w.alloc (.cells #[.int .i64 l.length, .int .i64 (scF l 0), .int .i64 (scF l 1), .int .i64 (scF l 2), .int .i64 (scF l 3)] 75)).alloc (.cells #[.int .i64 a, .int .i64 k, .int .i64 x, .int .i64 y, .int .i64 z] 47)) W → W.cell? ⟨w.heap.size, 0, none⟩ = some (.int .i64 l.length) ∧ W.cell? ⟨w.heap.size, 1, none⟩ = some (.int .i64 (scF l 0)) ∧ W.cell? ⟨w.heap.size, 2, none⟩ = some (.int .i64 (scF l 1)) ∧ W.cell? ⟨w.heap.size, 3, none⟩ = some (.int .i64 (scF l 2)) ∧ W.cell? ⟨w.heap.size, 4, none⟩ = some (.int .i64 (scF l 3)) ∧ W.cell? ⟨w.heap.size + 1, 0, none⟩ = some (.int .i64 a) ∧ W.cell? ⟨w.heap.size + 1, 1, none⟩ = some (.int .i64 k) ∧ W.cell? ⟨w.heap.size + 1, 2, none⟩ = some (.int .i64 x) ∧ W.cell? ⟨w.heap.size + 1, 3, none⟩ = some (.int .i64 y) ∧ W.cell? ⟨w.heap.size + 1, 4, none⟩ = some (.int .i64 z) ∧ w.heap.size + 1 < W.heap.size) := by
    intro W kW
    have hs : (((w.alloc (.cells #[.int .i64 l.length, .int .i64 (scF l 0), .int .i64 (scF l 1), .int .i64 (scF l 2), .int .i64 (scF l 3)] 75)).alloc (.cells #[.int .i64 a, .int .i64 k, .int .i64 x, .int .i64 y, .int .i64 z] 47))).heap.size = w.heap.size + 1 + 1 := by simp
    have k0 : ∀ o, W.cell? ⟨w.heap.size, o, none⟩ = (((w.alloc (.cells #[.int .i64 l.length, .int .i64 (scF l 0), .int .i64 (scF l 1), .int .i64 (scF l 2), .int .i64 (scF l 3)] 75)).alloc (.cells #[.int .i64 a, .int .i64 k, .int .i64 x, .int .i64 y, .int .i64 z] 47))).cell? ⟨w.heap.size, o, none⟩ := fun o => kW.cell (p := ⟨w.heap.size, o, none⟩) (by rw [hs]; show w.heap.size < _; omega) (fun h => h)
    have k1 : ∀ o, W.cell? ⟨w.heap.size + 1, o, none⟩ = (((w.alloc (.cells #[.int .i64 l.length, .int .i64 (scF l 0), .int .i64 (scF l 1), .int .i64 (scF l 2), .int .i64 (scF l 3)] 75)).alloc (.cells #[.int .i64 a, .int .i64 k, .int .i64 x, .int .i64 y, .int .i64 z] 47))).cell? ⟨w.heap.size + 1, o, none⟩ := fun o => kW.cell (p := ⟨w.heap.size + 1, o, none⟩) (by rw [hs]; show w.heap.size + 1 < _; omega) (fun h => h)
    have hsz := kW.size
    rw [hs] at hsz
    simp only [k0, k1]
    refine ⟨?_, ?_, ?_, ?_, ?_, ?_, ?_, ?_, ?_, ?_, by omega⟩ <;> simp [go_sem, World.cell?_alloc_at]
  have HK0 : Hid (Nw w ((w.alloc (.cells #[.int .i64 l.length, .int .i64 (scF l 0), .int .i64 (scF l 1), .int .i64 (scF l 2), .int .i64 (scF l 3)] 75)).alloc (.cells #[.int .i64 a, .int .i64 k, .int .i64 x, .int .i64 y, .int .i64 z] 47))) := ((Kp.refl _ w).alloc _).alloc _
  unfold schV evV at *
  simp only at HV ⊢
  go_enter Tryz.func42, Tryz.ntmps42
  go_wp2_with fail
  refine (HHK.out _).mono ?_
  rintro e1 w1 ⟨rfl, k1⟩
  obtain ⟨c0, c1, c2, c3, c4, d0, d1, d2, d3, d4, hlt⟩ := HBX.out w1 k1
  have K1 : Hid (Nw ((w.alloc (.cells #[.int .i64 l.length, .int .i64 (scF l 0), .int .i64 (scF l 1), .int .i64 (scF l 2), .int .i64 (scF l 3)] 75)).alloc (.cells #[.int .i64 a, .int .i64 k, .int .i64 x, .int .i64 y, .int .i64 z] 47)) w1) := k1
  clear k1 HHK
  generalize ((w.alloc (.cells #[.int .i64 l.length, .int .i64 (scF l 0), .int .i64 (scF l 1), .int .i64 (scF l 2), .int .i64 (scF l 3)] 75)).alloc (.cells #[.int .i64 a, .int .i64 k, .int .i64 x, .int .i64 y, .int .i64 z] 47)) = W0 at *
  generalize hasK l k = hk at *
  cases hk with
  | false =>
    have hge : ge = false := by rw [HG.out]; simp
    go_wp2
    go_ret
    exact ⟨by rw [hge]; rfl, HK0.out.trans K1.out⟩
  | true =>
    by_cases ha0 : a < 0
    · have hge : ge = false := by rw [HG.out]; have : decide (0 ≤ a) = false := by simp; omega
                                  simp [this]
      clear HG
      go_wp2
      go_ret
      exact ⟨by rw [hge]; rfl, HK0.out.trans K1.out⟩
    · by_cases ha1 : 1000000000000000 < a
      · have hge : ge = false := by rw [HG.out]; have : decide (a ≤ 1000000000000000) = false := by simp; omega
                                    simp [this]
        clear HG
        have ha0' : decide (a < 0) = false := by simpa using ha0
        go_wp2
        go_ret
        exact ⟨by rw [hge]; rfl, HK0.out.trans K1.out⟩
      · have HG2 : Hid (ge = (goodF l ⟨a, k, x, y, z⟩ 1 && goodF l ⟨a, k, x, y, z⟩ 2 && goodF l ⟨a, k, x, y, z⟩ 3)) := by
          show _ = _
          rw [HG.out, show decide (0 ≤ a) = true by simp; omega, show decide (a ≤ 1000000000000000) = true by simp; omega]
          simp
        have ha0' : decide (a < 0) = false := by simpa using ha0
        have ha1' : decide (1000000000000000 < a) = false := by simpa using ha1
        clear HG
        go_wp2
        go_loopg [5] 3 (fun m v5 wr => ∃ i : Nat, v5 = .int .i64 ((i : Int) + 1) ∧ m = 3 - i ∧ i ≤ 3 ∧ (∀ j : Nat, j < i → goodF l ⟨a, k, x, y, z⟩ ((j : Int) + 1) = true) ∧ Nw W0 wr)
        case atStart => exact ⟨0, rfl, rfl, by omega, fun j hj => by omega, K1.out⟩
        case round =>
          obtain ⟨i, rfl, hm, hi, hgd, hk⟩ := hrel
          have HM : Hid (_ = 3 - i) := hm
          have HGD : Hid (∀ j : Nat, j < i → goodF l ⟨a, k, x, y, z⟩ ((j : Int) + 1) = true) := hgd
          have HK : Hid (Nw W0 wr) := hk
          clear c0 c1 c2 c3 c4 d0 d1 d2 d3 d4 hlt
          obtain ⟨c0, c1, c2, c3, c4, d0, d1, d2, d3, d4, hlt⟩ := HBX.out wr hk
          clear hm hgd hk
          by_cases hil : i < 3
          · have HGI := HGF.out ((i : Int) + 1)
            have HF := HHF.out ((i : Int) + 1)
            have HV1 := HV.out ((i : Int) + 1)
            have HBAD : Hid (goodF l ⟨a, k, x, y, z⟩ ((i : Int) + 1) = false → ge = false) := by
              intro h
              rw [HG2.out]
              have h3 : i = 0 ∨ i = 1 ∨ i = 2 := by omega
              rcases h3 with rfl | rfl | rfl <;> simp at h <;> simp [h]
            have HNX : Hid (goodF l ⟨a, k, x, y, z⟩ ((i : Int) + 1) = true → ∀ j : Nat, j < i + 1 → goodF l ⟨a, k, x, y, z⟩ ((j : Int) + 1) = true) := by
              intro h j hj
              by_cases e : j = i
              · subst e; exact h
              · exact HGD.out j (by omega)
            generalize goodF l ⟨a, k, x, y, z⟩ ((i : Int) + 1) = gi at *
            generalize hasFd l k ((i : Int) + 1) = hfd at *
            generalize evF ⟨a, k, x, y, z⟩ ((i : Int) + 1) = vf at *
            have HGI' : Hid (gi = (hfd || vf == 0)) := HGI
            clear HGI HGD
            go_wp2_with fail
            refine (HF _).mono ?_
            rintro e2 w2 ⟨rfl, k2⟩
            have K2 : Hid (Nw W0 w2) := HK.out.trans k2
            clear c0 c1 c2 c3 c4 d0 d1 d2 d3 d4 hlt
            obtain ⟨c0, c1, c2, c3, c4, d0, d1, d2, d3, d4, hlt⟩ := HBX.out w2 K2.out
            clear k2
            cases hfd with
            | true =>
              go_wp2
              go_roundg (3 - (i + 1))
              case measure => rw [HM.out]; omega
              case rel => exact ⟨i + 1, by simp, rfl, by omega, HNX.out (by rw [HGI'.out]; rfl), K2.out⟩
            | false =>
              go_wp2_with fail
              refine (HV1 _).mono ?_
              rintro e3 w3 ⟨rfl, k3⟩
              have K3 : Hid (Nw W0 w3) := K2.out.trans k3
              clear k3
              by_cases hv : vf = 0
              · have hv' : (vf != 0) = false := by simp [hv]
                have HGT : Hid (gi = true) := by show _ = _; rw [HGI'.out]; simp [hv]
                clear hv
                go_wp2
                go_roundg (3 - (i + 1))
                case measure => rw [HM.out]; omega
                case rel => exact ⟨i + 1, by simp, rfl, by omega, HNX.out HGT.out, K3.out⟩
              · have hv' : (vf != 0) = true := by simp [hv]
                have hge : Hid (ge = false) := HBAD.out (by rw [HGI'.out]; simp [hv])
                clear hv
                go_wp2
                go_ret
                exact ⟨by rw [hge.out]; rfl, HK0.out.trans K3.out⟩
          · have hie : i = 3 := by omega
            have hge : Hid (ge = true) := by
              show _ = _
              subst hie
              rw [HG2.out]
              have g1 := HGD.out 0 (by omega)
              have g2 := HGD.out 1 (by omega)
              have g3 := HGD.out 2 (by omega)
              simp at g1 g2 g3
              simp [g1, g2, g3]
            subst hie
            go_wp2
            go_ret
            exact ⟨by rw [hge.out]; rfl, HK0.out.trans HK.out⟩
deriving instance DecidableEq for Evt
structure Nmb where
 n:Int
 e:Evt
deriving DecidableEq
structure Thr where
 at':Int
 first:Int
 began:Int
 h0:Nmb
 h1:Nmb
 h2:Nmb
 h3:Nmb
deriving DecidableEq
def Thr.hd (t:Thr):Nat→Nmb
 | 0=>t.h0
 | 1=>t.h1
 | 2=>t.h2
 | _=>t.h3
def ev0:Evt:=⟨0,0,0,0,0⟩
def nmb0:Nmb:=⟨-1,ev0⟩
def newT (a:Int) (e:Nmb):Thr:=⟨a,e.n,e.e.at',nmb0,nmb0,nmb0,nmb0⟩
def aheadF (t o:Thr):Nat→Nat→Bool
 | 0,_=>decide (t.at'<o.at')
 | m+1,i=>if (t.hd i).n=(o.hd i).n then aheadF t o m (i+1) else decide ((t.hd i).n<(o.hd i).n)
def aheadB (t o:Thr):Bool:=if t.first=o.first then aheadF t o 4 0 else decide (t.first<o.first)
structure Mt where
 first:Int
 last:Int
 h0:Int
 h1:Int
 h2:Int
 h3:Int
deriving DecidableEq
def matchT (t:Thr) (last:Int):Mt:=⟨t.first,last,t.h0.n,t.h1.n,t.h2.n,t.h3.n⟩
structure Crw where
 l:List Thr
 most:Int
 over:Bool
def plcFT (l:List Thr) (t:Thr):Nat→Nat→Nat→Nat
 | 0,lo,_=>lo
 | m+1,lo,hi =>
  if lo<hi then
   match l[lo+(hi - lo) / 2]? with
   | some u=>if aheadB u t=true then plcFT l t m (lo+(hi - lo) / 2+1) hi else plcFT l t m lo (lo+(hi - lo) / 2)
   | none=>lo
  else lo
def plcT (l:List Thr) (t:Thr):Nat:=plcFT l t l.length 0 l.length
def addC (c:Crw) (t:Thr):Crw :=
 if c.l[plcT c.l t]? = some t then c
 else if c.most≤c.l.length then { c with over:=true }
 else { c with l:=c.l.take (plcT c.l t)++t::c.l.drop (plcT c.l t) }
def bitN (p:Int):Nat:=if p=0 then 1 else if p=1 then 2 else if p=2 then 4 else if p=3 then 8 else 0
def heldS (hand:Nmb) (t:Thr) (p:Int) (anew:Nat):Nmb :=
 if ¬anew &&& bitN p=0 then hand else if p<0∨4≤p then nmb0 else t.hd p.toNat
def threadS (hand:Nmb) (t:Thr) (a:Int) (anew:Nat):Thr :=
 ⟨a,t.first,t.began,heldS hand t 0 anew,heldS hand t 1 anew,heldS hand t 2 anew,heldS hand t 3 anew⟩
def valS (hand:Nmb) (t:Thr) (anew:Nat) (x:Tm):Int×Bool :=
 if x.of=0 then (x.num,true) else if x.of=1 then (evF hand.e x.field,true)
 else (evF (heldS hand t (x.of - 2) anew).e x.field,decide (¬(heldS hand t (x.of - 2) anew).n = -1))
def arS (ar a b:Int):Int×Bool :=
 if ar=0 then (a,true) else if ar=1 then (wrap64 (a+b),decide (In64 (a+b))) else if ar=2 then (wrap64 (a - b),decide (In64 (a - b)))
 else if ar=3 then (wrap64 (a*b),decide (In64 (a*b))) else (0,false)
def rsideS (hand:Nmb) (t:Thr) (anew:Nat) (x:Tst):Int×Bool :=
 if (valS hand t anew x.right).2=true∧(valS hand t anew x.more).2=true then arS x.arith (valS hand t anew x.right).1 (valS hand t anew x.more).1 else (0,false)
def relS (r a b:Int):Bool:=if r=0 then decide (a<b) else if r=1 then decide (b<a) else if r=2 then decide (a=b) else if r=3 then decide (¬a=b) else false
def soS (hand:Nmb) (t:Thr) (anew:Nat) (x:Tst):Bool :=
 (valS hand t anew x.left).2&&(rsideS hand t anew x).2&&relS x.rel (valS hand t anew x.left).1 (rsideS hand t anew x).1
structure Tn where
 vis:List Bool
 opn:List (Int×Nat)
 wait:Crw
 ended:Crw
def rchS (s:Tn) (a:Int) (anew:Nat):Tn :=
 if 0≤a∧s.vis[(a*16+anew).toNat]? = some false then { s with vis:=s.vis.set (a*16+anew).toNat true,opn:=s.opn++[(a,anew)] } else s
def lvS (hand:Nmb) (t:Thr) (s:Tn) (a:Int) (anew:Nat) (x:In):Tn :=
 if x.op=0 then { s with wait:=addC s.wait (threadS hand t a anew) }
 else if x.op=1 then (if hand.e.at' - t.began≤x.a then rchS s (a+1) anew else s)
 else if x.op=2 then (if soS hand t anew x.test=true then rchS s (a+1) anew else s)
 else if x.op=3 then rchS s (a+1) (anew ||| bitN x.a)
 else if x.op=4 then rchS s x.a anew
 else if x.op=5 then rchS (rchS s x.a anew) x.b anew
 else if x.op=6 then { s with ended:=addC s.ended (threadS hand t 0 anew) }
 else s
def goF (code:List In) (hand:Nmb) (t:Thr):Nat→Tn→Tn
 | 0,s=>s
 | m+1,s =>
  if s.wait.over=true∨s.ended.over=true then s else
  match s.opn.getLast? with
  | none=>s
  | some p =>
   match code[p.1.toNat]? with
   | none=>s
   | some x=>goF code hand t m (lvS hand t { s with opn:=s.opn.dropLast } p.1 p.2 x)
def goOnS (code:List In) (hand:Nmb) (c:Crw×Crw) (t:Thr):Crw×Crw :=
 match code[t.at'.toNat]? with
 | none=>c
 | some x =>
  if x.a=4∨x.a=hand.e.kind then
   ((goF code hand t (1+16*code.length) (rchS ⟨List.replicate (16*code.length) false,[],c.1,c.2⟩ (t.at'+1) 0)).wait,(goF code hand t (1+16*code.length) (rchS ⟨List.replicate (16*code.length) false,[],c.1,c.2⟩ (t.at'+1) 0)).ended)
  else c
end Go.Proofs.YtcboiapggnmpfabGreat
