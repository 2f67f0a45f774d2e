import Derived.Test.YtcboiapggnmpfaaGreatQby
import Derived.Test.YtcboiapggnmpfaaGreatQaq
import Derived.Test.YtcboiapggnmpfaaGreatQap
import Derived.Deep.MidRow
import Derived.Deep.LoopGhost
namespace Go.Proofs.YtcboiapggnmpfaaGreat
set_option maxRecDepth 100000
set_option maxHeartbeats 2000000
set_option linter.unusedSimpArgs false
set_option linter.unusedVariables false
open Go.RowKit
def rkF (l:List In):Nat→Nat→Nat
 | 0,_=>0
 | m+1,i =>
  match l[i]? with
  | none=>0
  | some x=>if x.op=0 then 0 else ((nxt x i).map (rkF l m)).foldl max 0+1
def rkB (l:List In) (n:Nat):Bool :=
 (List.range l.length).all fun i =>
  match l[i]? with
  | none=>true
  | some x=>decide (x.op=0)||(nxt x i).all fun j=>decide (rkF l n j<rkF l n i)
theorem no_round {l:List In} {n:Nat} (h:rkB l n=true) (j:Nat) (hj:j<l.length):¬Rch l false j j:=by
 intro hr
 have he:∀i k,Edge l false i k→rkF l n k<rkF l n i:=by
  rintro i k ⟨x,hx,h0,hk⟩
  have hi:=(List.getElem?_eq_some_iff.1 hx).1
  have:=(List.all_eq_true.1 h) i (List.mem_range.2 hi)
  rw [hx] at this
  simp only [Bool.or_eq_true,decide_eq_true_eq,List.all_eq_true] at this
  rcases this with e|e
  ·have:=h0 e;simp at this
  ·exact e k hk
 have:=hr.closed (S:=fun x=>rkF l n x<rkF l n j) (fun k hk=>he j k hk) (fun x k hx hk=>Nat.lt_trans (he x k hk) hx)
 exact Nat.lt_irrefl _ this
def validB (l:List In) (n:Nat):Bool:=decide (l.length≤1000)&&decide (0<l.length)&&decide (firstNone l=l.length)&&rkB l n
theorem validB_is {l:List In} {n:Nat} (h:validB l n=true):ValidIs l 0 0:=by
 unfold validB at h
 simp only [Bool.and_eq_true,decide_eq_true_eq] at h
 obtain ⟨⟨⟨h1,h2⟩,h3⟩,h4⟩:=h
 refine Or.inr (Or.inr (Or.inr ⟨h1,?_,h3,rnd_none (fun j hj=>no_round h4 j hj),rfl,rfl⟩))
 intro e;rw [e] at h2;simp at h2
instance (x:Tm):Decidable (TmOk x):=by unfold TmOk In64;infer_instance
def inOkB (l:List In):Bool:=l.all fun x=>decide (TmOk x.test.left)&&decide (TmOk x.test.right)&&decide (TmOk x.test.more)
theorem inOkB_is {l:List In} (h:inOkB l=true):∀x∈l,InOk x:=by
 intro x hx
 have:=(List.all_eq_true.1 h) x hx
 simp only [Bool.and_eq_true,decide_eq_true_eq] at this
 exact ⟨this.1.1,this.1.2,this.2⟩
instance (l:List Int):DecidablePred (hkP l):=fun a=>by unfold hkP;infer_instance
instance (l:List Int) (a b:Int):Decidable (hfP l a b):=by unfold hfP;infer_instance
instance (l:List Int) (R:Rules) (T:Tri) (k:Nat):Decidable (rightS R (hkP l) (hfP l) T k):=by unfold rightS;infer_instance
instance (t:Nt) (sts:List St):Decidable (LargeP t sts):=by unfold LargeP;infer_instance
def allRightB (l:List Int) (sts:List St) (T:Tri):Bool:=(List.range sts.length).all fun j=>decide (rightS (rulesOf sts) (hkP l) (hfP l) T j)
theorem codeOf_fst {T:Nt} {L L':List (St×Value)} (h:L.map Prod.fst=L'.map Prod.fst) (hw:Bool) (win:Int):codeOf T L hw win=codeOf T L' hw win:=by
 have hlen:L.length=L'.length:=by have:=congrArg List.length h;simpa using this
 have hg:∀k,(L[k]?).map Prod.fst=(L'[k]?).map Prod.fst:=fun k=>by rw [←List.getElem?_map,←List.getElem?_map,h]
 have hn:nmL L=nmL L':=by
  funext k
  have:=hg k
  unfold nmL
  cases h1:L[k]? <;> cases h2:L'[k]? <;> rw [h1,h2] at this <;> simp at this ⊢
  rw [this]
 have hh:∀hp s,headOfP hp hw win L s=headOfP hp hw win L' s:=by
  intro hp s
  have:=hg s
  unfold headOfP
  cases h1:L[s]? <;> cases h2:L'[s]? <;> rw [h1,h2] at this <;> simp at this ⊢
  rw [this]
 unfold codeOf
 rw [hlen,hn]
 congr 1
 exact List.map_congr_left (fun s _=>hh _ s)
def progL (l:List Int) (sts:List St) (T:Tri) (N:Nt) (win:Option Int):Option (List In) :=
 if allRightB l sts T=true∧¬LargeP N sts then some (codeOf N (N.steps.map fun y=>(y,.bool false)) win.isSome (win.getD 0)) else none
noncomputable def progB (sc s:ByteArray):Option (List In) :=
 if s.size≤120∧schemaB (bI sc)=true then
  (pTopOf (pAtom 8) (toks 0 (bI s))).1.bind fun p=>progL (bI sc) (altS (atomS 8) p.1.1 p.1.2) (altT (atomT 8) p.1.1 p.1.2) (altTr (atomTr 8) p.1) p.2
 else none
theorem progB_is {sc s:ByteArray} {l:List In} {n:Nat} (h:progB sc s=some l) (hv:validB l n=true) (hi:inOkB l=true):ProgIs sc s l:=by
 unfold progB at h
 split at h
 ·rename_i h1
  obtain ⟨p,hp1,hp2⟩:=Option.bind_eq_some_iff.1 h
  have hp:pTopOf (pAtom 8) (toks 0 (bI s))=(some (p.1,p.2),(pTopOf (pAtom 8) (toks 0 (bI s))).2):=by
   rw [←hp1]
  unfold progL at hp2
  split at hp2
  ·rename_i h2
   simp only [Option.some.injEq] at hp2
   have hT:ProgT (bI sc) p.1 0 0:=by
    refine Or.inr (Or.inr ⟨?_,h2.2,rfl,rfl⟩)
    intro j hj
    have:=(List.all_eq_true.1 h2.1) j (List.mem_range.2 hj)
    simpa using this
   have hC:ProgC sc s 0 0:=Or.inr (Or.inr (Or.inr ⟨h1.1,h1.2,p.1,p.2,_,hp,hT⟩))
   refine ⟨fun f q hf=>(hf.uniq hC).1,h1.2,?_,validB_is hv,inOkB_is hi⟩
   intro t' win' L x' hp' hk
   rw [hp] at hp'
   have e1:p.1=t':=by have:=congrArg (fun z=>z.1) hp';simp only [Option.some.injEq,Prod.mk.injEq] at this;exact this.1
   have e2:p.2=win':=by have:=congrArg (fun z=>z.1) hp';simp only [Option.some.injEq,Prod.mk.injEq] at this;exact this.2
   subst e1;subst e2
   rw [←hp2]
   refine codeOf_fst ?_ _ _
   rw [hk.steps,List.map_map]
   simp [Function.comp_def]
  ·cases hp2
 ·cases h
def pickK (c n:Int):Int:=(if c<0 then -(c+1) else c) % n
theorem pickK_lt {c n:Int} (hn:0<n):0≤pickK c n∧pickK c n<n:=⟨Int.emod_nonneg _ (by omega),Int.emod_lt_of_pos _ hn⟩
theorem pickK_any (c n:Int) (w:World) (hc:In64 c) (hn:0<n) (hn2:n≤1000) :
  Calls Tryz.prog 17 #[.int .i64 c,.int .i64 n] w fun e w'=>e=.returned (.int .i64 (pickK c n))∧w'=w:=by
 obtain ⟨h1,h2⟩:=hc
 by_cases hneg:c<0
 ·have e1:(-(c+1)).tmod n=pickK c n:=by unfold pickK;rw [if_pos hneg,Int.tmod_eq_emod_of_nonneg (by omega)]
  have hn0:¬n=0:=by omega
  generalize pickK c n=p at *
  go_enter Tryz.func17,Tryz.ntmps17
  go_wp2
  go_ret
  exact ⟨by first|rfl|(rw [←e1];rfl),rfl⟩
 ·have e1:c.tmod n=pickK c n:=by unfold pickK;rw [if_neg hneg,Int.tmod_eq_emod_of_nonneg (by omega)]
  have hn0:¬n=0:=by omega
  generalize pickK c n=p at *
  go_enter Tryz.func17,Tryz.ntmps17
  go_wp2
  go_ret
  exact ⟨by first|rfl|(rw [←e1];rfl),rfl⟩
theorem related_any (rel a b:Int) (w:World) (h0:0≤rel) (h3:rel≤3) :
  Calls Tryz.prog 25 #[.int .i64 rel,.int .i64 a,.int .i64 b] w fun e w'=>e=.returned (.bool (relS rel a b))∧w'=w:=by
 have h4:rel=0∨rel=1∨rel=2∨rel=3:=by omega
 clear h0 h3
 rcases h4 with rfl|rfl|rfl|rfl
 ·go_enter Tryz.func25,Tryz.ntmps25
  go_wp2
  go_ret
  exact ⟨rfl,rfl⟩
 ·go_enter Tryz.func25,Tryz.ntmps25
  go_wp2
  go_ret
  exact ⟨rfl,rfl⟩
 ·have HE:Hid ((a == b)=relS 2 a b):=by show _=_;by_cases h:a=b <;> simp [relS,h]
  go_enter Tryz.func25,Tryz.ntmps25
  go_wp2
  go_ret
  exact ⟨by rw [←HE.out];rfl,rfl⟩
 ·have HE:Hid ((a != b)=relS 3 a b):=by show _=_;by_cases h:a=b <;> simp [relS,h]
  go_enter Tryz.func25,Tryz.ntmps25
  go_wp2
  go_ret
  exact ⟨by rw [←HE.out];rfl,rfl⟩
theorem mask_and (a:Int) (h:In64 a):bits .and .i64 a 4294967295=a % 4294967296:=by
 have h1:(BitVec.ofInt 64 a).toNat=(a % 18446744073709551616).toNat:=by
  simp only [BitVec.toNat_ofInt];omega
 have h2:(BitVec.ofInt 64 (4294967295:Int)).toNat=4294967295:=by decide
 have h3:(BitVec.ofInt 64 a &&& BitVec.ofInt 64 (4294967295:Int)).toNat=(a % 18446744073709551616).toNat % 4294967296:=by
  rw [BitVec.toNat_and,h1,h2]
  exact Nat.and_two_pow_sub_one_eq_mod _ 32
 show IntKind.i64.wrap ((BitVec.ofInt 64 a &&& BitVec.ofInt 64 (4294967295:Int)).toNat:Int)=_
 rw [h3,IntWalk.i64_in _ (by omega)]
 omega
theorem half_any (a:Int) (w:World) (h:In64 a) :
  Calls Tryz.prog 57 #[.int .i64 a] w fun e w'=>e=.returned (.tuple #[.int .i64 (a / 4294967296),.int .i64 (a % 4294967296)])∧w'=w:=by
 have hm:=mask_and a h
 obtain ⟨h1,h2⟩:=h
 have hq:(a - a % 4294967296).tdiv 4294967296=a / 4294967296:=by
  have e:a - a % 4294967296=(a / 4294967296)*4294967296:=by omega
  rw [e,Int.mul_tdiv_cancel _ (by omega)]
 have b1:0≤a % 4294967296:=by omega
 have b2:a % 4294967296<4294967296:=by omega
 have HW:IntKind.i64.wrap (a - a % 4294967296)=a - a % 4294967296:=IntWalk.i64_in _ (by omega)
 have hw64:wrap64 (a / 4294967296)=a / 4294967296:=by unfold wrap64;omega
 generalize a % 4294967296=lo at *
 generalize a / 4294967296=hi at *
 go_enter Tryz.func57,Tryz.ntmps57
 go_wp2
 go_ret2
 refine ⟨?_,rfl⟩
 show Ending.returned (Value.tuple #[.int .i64 (wrap64 hi),.int .i64 lo])=_
 rw [hw64]
def sumS (a b sign:Int):Int×Bool:=if In64 (a+sign*b) then (a+sign*b,true) else (0,false)
def SumPost (p:Int×Bool) (w:World) (e:Ending) (w':World):Prop:=e=.returned (.tuple #[.int .i64 p.1,.bool p.2])∧w'=w
theorem sumK_any (a b sign:Int) (w:World) (ha:In64 a) (hb:In64 b) (hs:sign=1∨sign = -1) :
  Calls Tryz.prog 23 #[.int .i64 a,.int .i64 b,.int .i64 sign] w (SumPost (sumS a b sign) w):=by
 have HA:Hid (∀W,Calls Tryz.prog 57 #[.int .i64 a] W fun e w'=>e=.returned (.tuple #[.int .i64 (a / 4294967296),.int .i64 (a % 4294967296)])∧w'=W):=fun W=>half_any a W ha
 have HBB:Hid (∀W,Calls Tryz.prog 57 #[.int .i64 b] W fun e w'=>e=.returned (.tuple #[.int .i64 (b / 4294967296),.int .i64 (b % 4294967296)])∧w'=W):=fun W=>half_any b W hb
 obtain ⟨lo,hlo⟩:∃lo,lo=a % 4294967296+sign*(b % 4294967296):=⟨_,rfl⟩
 obtain ⟨hi,hhi⟩:∃hi,hi=a / 4294967296+sign*(b / 4294967296):=⟨_,rfl⟩
 have HT:Hid (hi*4294967296+lo=a+sign*b):=by
  show _=_
  rcases hs with rfl|rfl <;> omega
 have bA : -2147483648≤a / 4294967296∧a / 4294967296<2147483648∧0≤a % 4294967296∧a % 4294967296<4294967296:=by unfold In64 at ha;omega
 have bB : -2147483648≤b / 4294967296∧b / 4294967296<2147483648∧0≤b % 4294967296∧b % 4294967296<4294967296:=by unfold In64 at hb;omega
 have HS:Hid (sumS a b sign=if In64 (a+sign*b) then (a+sign*b,true) else (0,false)):=rfl
 have hlb : -4294967296<lo∧lo<8589934592:=by rcases hs with rfl|rfl <;> omega
 have hhb : -4294967297≤hi∧hi≤4294967296:=by rcases hs with rfl|rfl <;> omega
 generalize sumS a b sign=p at *
 generalize a+sign*b=t at *
 generalize a / 4294967296=ah at *
 generalize a % 4294967296=al at *
 generalize b / 4294967296=bh at *
 generalize b % 4294967296=bl at *
 have wl1:IntKind.i64.wrap (sign*bl)=sign*bl:=IntWalk.i64_in _ (by rcases hs with rfl|rfl <;> omega)
 have wl2:IntKind.i64.wrap (al+sign*bl)=al+sign*bl:=IntWalk.i64_in _ (by rcases hs with rfl|rfl <;> omega)
 have wh1:IntKind.i64.wrap (sign*bh)=sign*bh:=IntWalk.i64_in _ (by rcases hs with rfl|rfl <;> omega)
 have wh2:IntKind.i64.wrap (ah+sign*bh)=ah+sign*bh:=IntWalk.i64_in _ (by rcases hs with rfl|rfl <;> omega)
 have hlo':=hlo.symm
 have hhi':=hhi.symm
 clear hlo hhi ha hb hs bA bB
 go_enter Tryz.func23,Tryz.ntmps23
 go_wp2_with fail
 refine (HA.out _).mono ?_
 rintro e1 w1 ⟨rfl,rfl⟩
 go_wp2_with fail
 refine (HBB.out _).mono ?_
 rintro e2 w2 ⟨rfl,rfl⟩
 go_wp2
 go_loopg [12,13] (if lo<0 then 1 else 0) (fun m v12 v13 wr=>∃x y:Int,v12=.int .i64 x∧v13=.int .i64 y∧y*4294967296+x=t ∧ -4294967296<x∧x<8589934592 ∧ -4294967299≤y∧y≤4294967297∧(x<0→m=1 ∧ -4294967298≤y)∧wr=w2)
 case atStart=>exact ⟨lo,hi,rfl,rfl,HT.out,hlb.1,hlb.2,by omega,by omega,fun h=>⟨if_pos h,by omega⟩,rfl⟩
 case round =>
  obtain ⟨x,y,rfl,rfl,ht,hx1,hx2,hy1,hy2,hm,rfl⟩:=hrel
  have HTT:Hid (y*4294967296+x=t):=ht
  clear ht hlo' hhi' wl1 wl2 wh1 wh2 HT hlb hhb
  by_cases hneg:x<0
  ·obtain ⟨hm1,hy3⟩:=hm hneg
   have HM1:Hid (gk=1):=hm1
   clear hm hm1
   go_wp2
   go_roundg 0
   case measure=>rw [HM1.out];omega
   case rel=>exact ⟨x+4294967296,y - 1,rfl,rfl,by have:=HTT.out;omega,by omega,by omega,by omega,by omega,fun h=>by omega,rfl⟩
  ·clear hm
   go_wp2
   go_loopg [12,13] (if x<4294967296 then 0 else 1) (fun m v12 v13 wq=>∃x y:Int,v12=.int .i64 x∧v13=.int .i64 y∧y*4294967296+x=t∧0≤x∧x<8589934592 ∧ -4294967299≤y∧y≤4294967298∧(4294967296≤x→m=1∧y≤4294967297)∧wq=wr)
   case atStart=>exact ⟨x,y,rfl,rfl,HTT.out,by omega,hx2,by omega,by omega,fun h=>⟨if_neg (by omega),by omega⟩,rfl⟩
   case round =>
    clear hx1 hx2 hy1 hy2 HTT hneg
    obtain ⟨x,y,rfl,rfl,ht,hx1,hx2,hy1,hy2,hm,rfl⟩:=hrel
    have HTT:Hid (y*4294967296+x=t):=ht
    clear ht
    by_cases hbig:4294967296≤x
    ·obtain ⟨hm1,hy3⟩:=hm hbig
     have HM1:Hid (gk=1):=hm1
     clear hm hm1
     go_wp2
     go_roundg 0
     case measure=>rw [HM1.out];omega
     case rel=>exact ⟨x - 4294967296,y+1,rfl,rfl,by have:=HTT.out;omega,by omega,by omega,by omega,by omega,fun h=>by omega,rfl⟩
    ·clear hm
     by_cases hlow:y < -2147483648
     ·have HP:Hid (p=(0,false)):=by show _=_;rw [HS.out,if_neg (by have:=HTT.out;unfold In64;omega)]
      have hl':decide (y < -2147483648)=true:=by simpa using hlow
      go_wp2
      go_ret2
      exact ⟨by rw [HP.out];rfl,rfl⟩
     ·have hl':decide (y < -2147483648)=false:=by simpa using hlow
      by_cases hhigh:2147483648≤y
      ·have HP:Hid (p=(0,false)):=by show _=_;rw [HS.out,if_neg (by have:=HTT.out;unfold In64;omega)]
       go_wp2
       go_ret2
       exact ⟨by rw [HP.out];rfl,rfl⟩
      ·have HP:Hid (p=(y*4294967296+x,true)):=by show _=_;rw [HS.out,HTT.out,if_pos (by have:=HTT.out;unfold In64;omega)]
       go_wp2
       go_ret2
       exact ⟨by rw [HP.out];rfl,rfl⟩
def ProdPost (P:Int) (w:World) (e:Ending) (w':World):Prop:=∃h,e=.returned (.tuple #[.int .i64 h,.bool (decide (In64 P))])∧(In64 P→h=P)∧In64 h∧w'=w
theorem prodNN:∀(m:Nat) (a b:Int) (w:World),In64 a→0≤b→In64 b→b<2 ^ m→Calls Tryz.prog 24 #[.int .i64 a,.int .i64 b] w (ProdPost (a*b) w):=by
 intro m
 induction m with
 | zero =>
  intro a b w ha hb hb2 hm
  have hb0:b=0:=by simp at hm;omega
  subst hb0
  rw [Int.mul_zero]
  by_cases h0:a=0
  ·subst h0
   go_enter Tryz.func24,Tryz.ntmps24
   go_wp2
   go_ret2
   exact ⟨0,rfl,fun _=>rfl,by decide,rfl⟩
  ·have g0:(a == 0)=false:=by simpa using h0
   go_enter Tryz.func24,Tryz.ntmps24
   go_wp2
   go_ret2
   exact ⟨0,rfl,fun _=>rfl,by decide,rfl⟩
 | succ m ih =>
  intro a b w ha hb hb2 hm
  by_cases h0:a=0
  ·subst h0
   rw [Int.zero_mul]
   go_enter Tryz.func24,Tryz.ntmps24
   go_wp2
   go_ret2
   exact ⟨0,rfl,fun _=>rfl,by decide,rfl⟩
  ·have g0:(a == 0)=false:=by simpa using h0
   by_cases h1:b=0
   ·subst h1
    rw [Int.mul_zero]
    go_enter Tryz.func24,Tryz.ntmps24
    go_wp2
    go_ret2
    exact ⟨0,rfl,fun _=>rfl,by decide,rfl⟩
   ·have g1:(b == 0)=false:=by simpa using h1
    have g2:(b == -9223372036854775808)=false:=by simp;omega
    have g3:decide (b<0)=false:=by simp;omega
    obtain ⟨P,hPe⟩:∃P,P=a*b:=⟨_,rfl⟩
    rw [←hPe]
    have HA64:Hid (In64 a):=ha
    have hbm:b / 2<2 ^ m:=by have:(2:Int) ^ (m+1)=2 ^ m*2:=Int.pow_succ _ _;omega
    have hb64:In64 (b / 2):=by unfold In64 at *;omega
    clear h0 h1
    go_enter Tryz.func24,Tryz.ntmps24
    obtain ⟨q,hq⟩:∃q,b / 2=q:=⟨_,rfl⟩
    obtain ⟨r,hr⟩:∃r,b % 2=r:=⟨_,rfl⟩
    have hbq:b=2*q+r:=by omega
    have hq0:0≤q:=by omega
    have hr2:r=0∨r=1:=by omega
    have hq1:(b).tdiv 2=q:=by rw [Int.tdiv_eq_ediv_of_nonneg (by omega)];exact hq
    have hr1:(b).tmod 2=r:=by rw [Int.tmod_eq_emod_of_nonneg (by omega)];exact hr
    have hPr:P=2*((a)*q)+r*(a):=by
     have h9:(a)*(b)=(a)*(2*q+r):=congrArg (fun z=>(a)*z) hbq
     rw [hPe,h9,Int.mul_add,Int.mul_comm (a) r,←Int.mul_assoc,Int.mul_comm (a) 2,Int.mul_assoc]
    have HIH:Hid (∀W z,z=q→Calls Tryz.prog 24 #[.int .i64 (a),.int .i64 z] W (ProdPost ((a)*q) W)):=fun W z hz=>by rw [hz,←hq];exact ih a (b / 2) W HA64.out (by omega) hb64 hbm
    have HQB:Hid (wrap64 q=q):=by show _=_;unfold wrap64;unfold In64 at hb64;omega
    have hsg:(0≤a→0≤(a)*q)∧(a≤0→(a)*q≤0):=⟨fun h=>Int.mul_nonneg h hq0,fun h=>Int.mul_nonpos_of_nonpos_of_nonneg h hq0⟩
    generalize (a)*q=u at *
    have HPR:Hid (P=2*u+r*(a)):=hPr
    have hPab:(r=0→P=2*u)∧(r=1→P=2*u+a):=⟨fun h=>by rw [hPr,h];omega,fun h=>by rw [hPr,h];omega⟩
    have HPAB:Hid ((r=0→P=2*u)∧(r=1→P=2*u+a)):=hPab
    have HSG:Hid ((0≤a→0≤u)∧(a≤0→u≤0)):=hsg
    have HR2:Hid (r=0∨r=1):=hr2
    have HB1:Hid (¬In64 u→¬In64 P):=by
     intro h1 h2
     apply h1
     unfold In64 at *
     rcases HR2.out with e|e
     ·have:=HPAB.out.1 e;have:=HSG.out;omega
     ·have:=HPAB.out.2 e;have:=HSG.out;omega
    have HB2:Hid (¬In64 (u+1*u)→¬In64 P):=by
     intro h1 h2
     apply h1
     unfold In64 at *
     rcases HR2.out with e|e
     ·have:=HPAB.out.1 e;have:=HSG.out;omega
     ·have:=HPAB.out.2 e;have:=HSG.out;omega
    clear hq hr hbq hq0 hr2 hPr hsg hPab hPe
    go_wp2_with fail
    refine (HIH.out _ _ (by first|exact HQB.out|rfl)).mono ?_
    rintro e1 w1 ⟨h,rfl,hv,hh,rfl⟩
    have HH:Hid (In64 h):=hh
    have HV:Hid (In64 u→h=u):=hv
    clear hv hh HIH
    by_cases hu:In64 u
    ·have hd:decide (In64 u)=true:=by simpa using hu
     have hhu:=HV.out hu
     subst hhu
     have HSM:Hid (∀W,Calls Tryz.prog 23 #[.int .i64 h,.int .i64 h,.int .i64 1] W (SumPost (sumS h h 1) W)):=fun W=>sumK_any h h 1 W hu hu (Or.inl rfl)
     rw [hd]
     clear hd
     go_wp2_with fail
     refine (HSM.out _).mono ?_
     rintro e2 w2 ⟨rfl,rfl⟩
     by_cases h2:In64 (h+1*h)
     ·have hs2:sumS h h 1=(h+1*h,true):=by unfold sumS;rw [if_pos h2]
      rw [hs2]
      have HH2:Hid (In64 (h+1*h)):=h2
      have e12:h+1*h=2*h:=by omega
      rw [e12] at HH2 ⊢
      rcases HR2.out with hr|hr
      ·subst hr
       have HP0:Hid (P=2*h):=HPAB.out.1 rfl
       clear hs2 h2 hu HSM
       go_wp2
       go_ret2
       exact ⟨2*h,by rw [HP0.out,show decide (In64 (2*h))=true by simpa using HH2.out];rfl,fun _=>HP0.out.symm,HH2.out,rfl⟩
      ·subst hr
       have HP1:Hid (P=2*h+a):=HPAB.out.2 rfl
       have HS3:Hid (∀W,Calls Tryz.prog 23 #[.int .i64 (2*h),.int .i64 (a),.int .i64 1] W (SumPost (sumS (2*h) (a) 1) W)):=fun W=>sumK_any (2*h) (a) 1 W HH2.out HA64.out (Or.inl rfl)
       clear hs2 h2 hu HSM
       go_wp2_with fail
       refine (HS3.out _).mono ?_
       rintro e3 w3 ⟨rfl,rfl⟩
       have HF:Hid (∃hh,sumS (2*h) (a) 1=(hh,decide (In64 P))∧(In64 P→hh=P)∧In64 hh):=by
        have ep:2*h+1*(a)=P:=by rw [HP1.out];omega
        unfold sumS
        rw [ep]
        by_cases hp:In64 P
        ·rw [if_pos hp];exact ⟨P,by simp [hp],fun _=>rfl,hp⟩
        ·rw [if_neg hp];exact ⟨0,by simp [hp],fun h=>absurd h hp,by decide⟩
       obtain ⟨hh,hf1,hf2,hf3⟩:=HF.out
       obtain ⟨dp,hdp⟩:∃dp,decide (In64 P)=dp:=⟨_,rfl⟩
       rw [hdp] at hf1
       have HDP:Hid (decide (In64 P)=dp):=hdp
       rw [hf1]
       clear hdp
       have HFF:Hid ((In64 P→hh=P)∧In64 hh):=⟨hf2,hf3⟩
       clear hf1 hf2 hf3 HF HS3
       go_wp2
       go_ret2
       exact ⟨hh,by rw [HDP.out];rfl,HFF.out.1,HFF.out.2,rfl⟩
     ·have hs2:sumS h h 1=(0,false):=by unfold sumS;rw [if_neg h2]
      have HP0:Hid (decide (In64 P)=false):=by show _=_;simpa using HB2.out h2
      have HNP:Hid (¬In64 P):=HB2.out h2
      rw [hs2]
      clear hs2 h2 HSM
      go_wp2
      go_ret2
      exact ⟨0,by rw [HP0.out];rfl,fun h=>absurd h HNP.out,by decide,rfl⟩
    ·have hd:decide (In64 u)=false:=by simpa using hu
     have HP0:Hid (decide (In64 P)=false):=by show _=_;simpa using HB1.out hu
     have HNP:Hid (¬In64 P):=HB1.out hu
     rw [hd]
     clear hd hu
     go_wp2
     go_ret2
     exact ⟨h,by rw [HP0.out];rfl,fun h=>absurd h HNP.out,HH.out,rfl⟩
theorem prodK_any (a b:Int) (w:World) (ha:In64 a) (hb:In64 b):Calls Tryz.prog 24 #[.int .i64 a,.int .i64 b] w (ProdPost (a*b) w):=by
 by_cases hpos:0≤b
 ·exact prodNN 64 a b w ha hpos hb (by unfold In64 at hb;omega)
 ·by_cases h0:a=0
  ·subst h0
   rw [Int.zero_mul]
   go_enter Tryz.func24,Tryz.ntmps24
   go_wp2
   go_ret2
   exact ⟨0,rfl,fun _=>rfl,by decide,rfl⟩
  ·have g0:(a == 0)=false:=by simpa using h0
   have g1:(b == 0)=false:=by simp;omega
   by_cases hl:b = -9223372036854775808
   ·subst hl
    have HE:Hid ((a == 1)=decide (In64 (a * -9223372036854775808))):=by
     show _=_
     by_cases h1:a=1
     ·subst h1;rfl
     ·have:¬In64 (a * -9223372036854775808):=by unfold In64;omega
      simp [h1,this]
    have HV:Hid (In64 (a * -9223372036854775808)→(-9223372036854775808:Int)=a * -9223372036854775808):=by
     intro h;unfold In64 at h;omega
    generalize a * -9223372036854775808=P at *
    go_enter Tryz.func24,Tryz.ntmps24
    go_wp2
    go_ret2
    exact ⟨-9223372036854775808,by rw [←HE.out];rfl,HV.out,by decide,rfl⟩
   ·have g2:(b == -9223372036854775808)=false:=by simpa using hl
    have g3:decide (b<0)=true:=by simp;omega
    by_cases hal:a = -9223372036854775808
    ·subst hal
     have HN:Hid (¬In64 (-9223372036854775808*b)):=by intro h;unfold In64 at h hb;omega
     have HE:Hid (decide (In64 (-9223372036854775808*b))=false):=by show _=_;simpa using HN.out
     generalize -9223372036854775808*b=P at *
     go_enter Tryz.func24,Tryz.ntmps24
     go_wp2
     go_ret2
     exact ⟨0,by rw [HE.out];rfl,fun h=>absurd h HN.out,by decide,rfl⟩
    ·have g4:(a == -9223372036854775808)=false:=by simpa using hal
     obtain ⟨na,hna⟩:∃na,-a=na:=⟨_,rfl⟩
     obtain ⟨nb,hnb⟩:∃nb,-b=nb:=⟨_,rfl⟩
     obtain ⟨P,hPe⟩:∃P,P=na*nb:=⟨_,rfl⟩
     have hab:a*b=P:=by rw [hPe,←hna,←hnb,Int.neg_mul_neg]
     rw [hab]
     have w1:IntKind.i64.wrap (-a) = -a:=IntWalk.i64_in _ (by unfold In64 at ha;omega)
     have w2:IntKind.i64.wrap (-b) = -b:=IntWalk.i64_in _ (by unfold In64 at hb;omega)
     rw [hna] at w1
     rw [hnb] at w2
     have HA64:Hid (In64 na):=by unfold In64 at *;show _∧_;omega
     have hnb0:0<nb:=by omega
     have hb64:In64 (nb / 2):=by unfold In64 at *;omega
     have hbm:nb / 2<2 ^ 63:=by unfold In64 at *;omega
     clear ha hb hpos h0 hl hal hab
     go_enter Tryz.func24,Tryz.ntmps24
     obtain ⟨q,hq⟩:∃q,nb / 2=q:=⟨_,rfl⟩
     obtain ⟨r,hr⟩:∃r,nb % 2=r:=⟨_,rfl⟩
     have hbq:nb=2*q+r:=by omega
     have hq0:0≤q:=by omega
     have hr2:r=0∨r=1:=by omega
     have hq1:(nb).tdiv 2=q:=by rw [Int.tdiv_eq_ediv_of_nonneg (by omega)];exact hq
     have hr1:(nb).tmod 2=r:=by rw [Int.tmod_eq_emod_of_nonneg (by omega)];exact hr
     have hPr:P=2*((na)*q)+r*(na):=by
      have h9:(na)*(nb)=(na)*(2*q+r):=congrArg (fun z=>(na)*z) hbq
      rw [hPe,h9,Int.mul_add,Int.mul_comm (na) r,←Int.mul_assoc,Int.mul_comm (na) 2,Int.mul_assoc]
     have HIH:Hid (∀W z,z=q→Calls Tryz.prog 24 #[.int .i64 (na),.int .i64 z] W (ProdPost ((na)*q) W)):=fun W z hz=>by rw [hz,←hq];exact prodNN 63 na (nb / 2) W HA64.out (by omega) hb64 hbm
     have HQB:Hid (wrap64 q=q):=by show _=_;unfold wrap64;unfold In64 at hb64;omega
     have hsg:(0≤na→0≤(na)*q)∧(na≤0→(na)*q≤0):=⟨fun h=>Int.mul_nonneg h hq0,fun h=>Int.mul_nonpos_of_nonpos_of_nonneg h hq0⟩
     generalize (na)*q=u at *
     have HPR:Hid (P=2*u+r*(na)):=hPr
     have hPab:(r=0→P=2*u)∧(r=1→P=2*u+na):=⟨fun h=>by rw [hPr,h];omega,fun h=>by rw [hPr,h];omega⟩
     have HPAB:Hid ((r=0→P=2*u)∧(r=1→P=2*u+na)):=hPab
     have HSG:Hid ((0≤na→0≤u)∧(na≤0→u≤0)):=hsg
     have HR2:Hid (r=0∨r=1):=hr2
     have HB1:Hid (¬In64 u→¬In64 P):=by
      intro h1 h2
      apply h1
      unfold In64 at *
      rcases HR2.out with e|e
      ·have:=HPAB.out.1 e;have:=HSG.out;omega
      ·have:=HPAB.out.2 e;have:=HSG.out;omega
     have HB2:Hid (¬In64 (u+1*u)→¬In64 P):=by
      intro h1 h2
      apply h1
      unfold In64 at *
      rcases HR2.out with e|e
      ·have:=HPAB.out.1 e;have:=HSG.out;omega
      ·have:=HPAB.out.2 e;have:=HSG.out;omega
     clear hq hr hbq hq0 hr2 hPr hsg hPab hPe
     go_wp2_with fail
     refine (HIH.out _ _ (by first|exact HQB.out|rfl)).mono ?_
     rintro e1 w1 ⟨h,rfl,hv,hh,rfl⟩
     have HH:Hid (In64 h):=hh
     have HV:Hid (In64 u→h=u):=hv
     clear hv hh HIH
     by_cases hu:In64 u
     ·have hd:decide (In64 u)=true:=by simpa using hu
      have hhu:=HV.out hu
      subst hhu
      have HSM:Hid (∀W,Calls Tryz.prog 23 #[.int .i64 h,.int .i64 h,.int .i64 1] W (SumPost (sumS h h 1) W)):=fun W=>sumK_any h h 1 W hu hu (Or.inl rfl)
      rw [hd]
      clear hd
      go_wp2_with fail
      refine (HSM.out _).mono ?_
      rintro e2 w2 ⟨rfl,rfl⟩
      by_cases h2:In64 (h+1*h)
      ·have hs2:sumS h h 1=(h+1*h,true):=by unfold sumS;rw [if_pos h2]
       rw [hs2]
       have HH2:Hid (In64 (h+1*h)):=h2
       have e12:h+1*h=2*h:=by omega
       rw [e12] at HH2 ⊢
       rcases HR2.out with hr|hr
       ·subst hr
        have HP0:Hid (P=2*h):=HPAB.out.1 rfl
        clear hs2 h2 hu HSM
        go_wp2
        go_ret2
        exact ⟨2*h,by rw [HP0.out,show decide (In64 (2*h))=true by simpa using HH2.out];rfl,fun _=>HP0.out.symm,HH2.out,rfl⟩
       ·subst hr
        have HP1:Hid (P=2*h+na):=HPAB.out.2 rfl
        have HS3:Hid (∀W,Calls Tryz.prog 23 #[.int .i64 (2*h),.int .i64 (na),.int .i64 1] W (SumPost (sumS (2*h) (na) 1) W)):=fun W=>sumK_any (2*h) (na) 1 W HH2.out HA64.out (Or.inl rfl)
        clear hs2 h2 hu HSM
        go_wp2_with fail
        refine (HS3.out _).mono ?_
        rintro e3 w3 ⟨rfl,rfl⟩
        have HF:Hid (∃hh,sumS (2*h) (na) 1=(hh,decide (In64 P))∧(In64 P→hh=P)∧In64 hh):=by
         have ep:2*h+1*(na)=P:=by rw [HP1.out];omega
         unfold sumS
         rw [ep]
         by_cases hp:In64 P
         ·rw [if_pos hp];exact ⟨P,by simp [hp],fun _=>rfl,hp⟩
         ·rw [if_neg hp];exact ⟨0,by simp [hp],fun h=>absurd h hp,by decide⟩
        obtain ⟨hh,hf1,hf2,hf3⟩:=HF.out
        obtain ⟨dp,hdp⟩:∃dp,decide (In64 P)=dp:=⟨_,rfl⟩
        rw [hdp] at hf1
        have HDP:Hid (decide (In64 P)=dp):=hdp
        rw [hf1]
        clear hdp
        have HFF:Hid ((In64 P→hh=P)∧In64 hh):=⟨hf2,hf3⟩
        clear hf1 hf2 hf3 HF HS3
        go_wp2
        go_ret2
        exact ⟨hh,by rw [HDP.out];rfl,HFF.out.1,HFF.out.2,rfl⟩
      ·have hs2:sumS h h 1=(0,false):=by unfold sumS;rw [if_neg h2]
       have HP0:Hid (decide (In64 P)=false):=by show _=_;simpa using HB2.out h2
       have HNP:Hid (¬In64 P):=HB2.out h2
       rw [hs2]
       clear hs2 h2 HSM
       go_wp2
       go_ret2
       exact ⟨0,by rw [HP0.out];rfl,fun h=>absurd h HNP.out,by decide,rfl⟩
     ·have hd:decide (In64 u)=false:=by simpa using hu
      have HP0:Hid (decide (In64 P)=false):=by show _=_;simpa using HB1.out hu
      have HNP:Hid (¬In64 P):=HB1.out hu
      rw [hd]
      clear hd hu
      go_wp2
      go_ret2
      exact ⟨h,by rw [HP0.out];rfl,fun h=>absurd h HNP.out,HH.out,rfl⟩
def lvO (so:Nat→Tst→Bool) (hand:Nmb) (t:Thr) (s:Tn) (a:Int) (anew:Nat) (x:In):Tn :=
 if x.op=0 then { s with wait:=addC s.wait (threadS hand t a anew) }
 else if x.op=1 then (if hand.e.at' - t.began≤x.a then rchS s (a+1) anew else s)
 else if x.op=2 then (if so anew x.test=true then rchS s (a+1) anew else s)
 else if x.op=3 then rchS s (a+1) (anew ||| bitN x.a)
 else if x.op=4 then rchS s x.a anew
 else if x.op=5 then rchS (rchS s x.a anew) x.b anew
 else if x.op=6 then { s with ended:=addC s.ended (threadS hand t 0 anew) }
 else s
def goFO (so:Nat→Tst→Bool) (code:List In) (hand:Nmb) (t:Thr):Nat→Tn→Tn
 | 0,s=>s
 | m+1,s =>
  if s.wait.over=true∨s.ended.over=true then s else
  match s.opn.getLast? with
  | none=>s
  | some p =>
   match code[p.1.toNat]? with
   | none=>s
   | some x=>goFO so code hand t m (lvO so hand t { s with opn:=s.opn.dropLast } p.1 p.2 x)
theorem goFO_is {so:Nat→Tst→Bool} {code:List In} {hand:Nmb} {t:Thr} (h:∀x∈code,x.op=2→∀anew,soS hand t anew x.test=so anew x.test):∀(m:Nat) (s:Tn),goF code hand t m s=goFO so code hand t m s:=by
 intro m
 induction m with
 | zero=>intro s;rfl
 | succ m ih =>
  intro s
  simp only [goF,goFO]
  by_cases ho:s.wait.over=true∨s.ended.over=true
  ·rw [if_pos ho,if_pos ho]
  ·rw [if_neg ho,if_neg ho]
   cases hq:s.opn.getLast? with
   | none=>rfl
   | some p =>
    simp only
    cases hx:code[p.1.toNat]? with
    | none=>rfl
    | some x =>
     simp only
     rw [ih]
     congr 1
     unfold lvS lvO
     by_cases h2:x.op=2
     ·rw [h x (List.mem_of_getElem? hx) h2]
     ·simp only [h2,if_false]
def wcode (r a:Int):List In:=[⟨4,1,0,tst0⟩,⟨0,0,0,tst0⟩,⟨2,0,0,⟨⟨1,1,0⟩,r,⟨1,2,0⟩,a,⟨1,3,0⟩⟩⟩,⟨4,4,0,tst0⟩,⟨6,0,0,tst0⟩]
def wso (r a x y z:Int):Bool:=(arS a y z).2&&relS r x (arS a y z).1
theorem w_so (r a x y z:Int) (t:Thr) (anew:Nat) (n:Int):soS ⟨n,⟨0,0,x,y,z⟩⟩ t anew ⟨⟨1,1,0⟩,r,⟨1,2,0⟩,a,⟨1,3,0⟩⟩=wso r a x y z:=by
 simp [soS,rsideS,valS,evF,wso]
theorem w_begins (r a:Int):beginsS (wcode r a)=[1]:=by kernel_rfl
theorem w_goon (r a x y z:Int) (b:Bool) (hb:wso r a x y z=b):(stepS (wcode r a) ⟨0,⟨0,0,x,y,z⟩⟩ [] [1] 200 200).1.over=false∧(stepS (wcode r a) ⟨0,⟨0,0,x,y,z⟩⟩ [] [1] 200 200).2.over=false∧(stepS (wcode r a) ⟨0,⟨0,0,x,y,z⟩⟩ [] [1] 200 200).2.l.map (fun t=>matchT t 0)=(if b=true then [⟨0,0,-1,-1,-1,-1⟩] else []):=by
 have hg:∀(m:Nat) (s:Tn),goF (wcode r a) ⟨0,⟨0,0,x,y,z⟩⟩ (newT 1 ⟨0,⟨0,0,x,y,z⟩⟩) m s=goFO (fun _ _=>b) (wcode r a) ⟨0,⟨0,0,x,y,z⟩⟩ (newT 1 ⟨0,⟨0,0,x,y,z⟩⟩) m s:=by
  refine goFO_is ?_
  intro v hv h2 anew
  simp only [wcode,List.mem_cons,List.not_mem_nil,or_false] at hv
  rcases hv with e|e|e|e|e <;> subst e <;> simp at h2
  rw [w_so,hb]
 have hs:stepS (wcode r a) ⟨0,⟨0,0,x,y,z⟩⟩ [] [1] 200 200=goOnS (wcode r a) ⟨0,⟨0,0,x,y,z⟩⟩ (⟨[],200,false⟩,⟨[],200,false⟩) (newT 1 ⟨0,⟨0,0,x,y,z⟩⟩):=rfl
 have hgo:goOnS (wcode r a) ⟨0,⟨0,0,x,y,z⟩⟩ (⟨[],200,false⟩,⟨[],200,false⟩) (newT 1 ⟨0,⟨0,0,x,y,z⟩⟩)=((goFO (fun _ _=>b) (wcode r a) ⟨0,⟨0,0,x,y,z⟩⟩ (newT 1 ⟨0,⟨0,0,x,y,z⟩⟩) 81 (rchS ⟨List.replicate 80 false,[],⟨[],200,false⟩,⟨[],200,false⟩⟩ 2 0)).wait,(goFO (fun _ _=>b) (wcode r a) ⟨0,⟨0,0,x,y,z⟩⟩ (newT 1 ⟨0,⟨0,0,x,y,z⟩⟩) 81 (rchS ⟨List.replicate 80 false,[],⟨[],200,false⟩,⟨[],200,false⟩⟩ 2 0)).ended):=by
  rw [←hg];rfl
 rw [hs,hgo]
 clear hg hs hgo hb
 cases b
 ·exact ⟨by kernel_rfl,by kernel_rfl,by kernel_rfl⟩
 ·exact ⟨by kernel_rfl,by kernel_rfl,by kernel_rfl⟩
theorem w_feed (r a x y z:Int):(feedS [51] (wcode r a) (beginsS (wcode r a)) 200 200 ⟨[],0,0,false⟩ ⟨0,0,x,y,z⟩).2=((if wso r a x y z=true then [⟨0,0,-1,-1,-1,-1⟩] else []),0):=by
 have hgood:goodE [51] ⟨0,0,x,y,z⟩=true:=rfl
 obtain ⟨h1,h2,h3⟩:=w_goon r a x y z _ rfl
 rw [w_begins]
 unfold feedS
 have e0:((0:Nat):Int)=0:=rfl
 rw [if_neg (by simp),if_neg (by simp [hgood])]
 simp only [e0]
 rw [h1,h2]
 rw [if_neg (by simp)]
 simp only
 rw [h3]
end Go.Proofs.YtcboiapggnmpfaaGreat
