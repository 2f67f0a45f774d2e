import Derived.Test.YtcboiapggnmpfaaGreatQaa
namespace Go.Proofs.YtcboiapggnmpfaaGreat
section
structure Eg where
 fr:Nat
 to:Nat
 st:Int
def Shuts (ok:Nat→Bool) (E:List Eg) (S:Nat→Prop):Prop :=
 ∀e∈E,(e.st<0∨ok e.st.toNat=true)→S e.fr→S e.to
theorem Shuts.append {ok:Nat→Bool} {E F:List Eg} {S:Nat→Prop}:Shuts ok (E++F) S↔Shuts ok E S∧Shuts ok F S:=by
 unfold Shuts
 constructor
 ·intro h
  exact ⟨fun e he=>h e (List.mem_append_left _ he),fun e he=>h e (List.mem_append_right _ he)⟩
 ·intro h e he
  rcases List.mem_append.1 he with he|he
  ·exact h.1 e he
  ·exact h.2 e he
abbrev Pl:=Nat→Nat→Nat→Nat→List Eg×Nat
structure POk (cnt:Nat) (pl:Pl) (ps:(Nat→Bool)→Nat→Bool) (rc:(Nat→Bool)→Nat→Nat→Bool):Prop where
 grow:∀fr to pt st,pt≤(pl fr to pt st).2
 points:∀fr to pt st,fr<pt→to<pt→∀e∈(pl fr to pt st).1,e.fr<(pl fr to pt st).2∧e.to<(pl fr to pt st).2
 steps:∀fr to pt st,∀e∈(pl fr to pt st).1,e.st = -1∨((st:Int)≤e.st∧e.st<(st:Int)+cnt)
 has:∀fr to pt st k,st≤k→k<st+cnt→∃e∈(pl fr to pt st).1,e.st=(k:Int)
 one:∀fr to pt st,∀e∈(pl fr to pt st).1,∀f∈(pl fr to pt st).1,0≤e.st→e.st=f.st→e=f
 up:∀ok fr to pt st S,Shuts ok (pl fr to pt st).1 S→S fr→(ps ok st=true→S to)∧∀e∈(pl fr to pt st).1,0≤e.st→rc ok st e.st.toNat=true→S e.fr
 down:∀ok fr to pt st (S0:Nat→Prop),fr<pt→to<pt→(S0 fr→ps ok st=true→S0 to) →
  ∃S1:Nat→Prop,(∀x,x<pt→(S1 x↔S0 x))∧Shuts ok (pl fr to pt st).1 S1∧∀e∈(pl fr to pt st).1,0≤e.st→(S1 e.fr↔(S0 fr∧rc ok st e.st.toNat=true))
def freeE (lo hi:Int) (fr to pt:Nat):List Eg :=
 [⟨fr,pt,-1⟩,⟨pt+1,to,-1⟩]++(if hi=1 then [] else [⟨pt+1,pt,-1⟩])++(if lo=0 then [⟨pt,pt+1,-1⟩] else [])
def plRound (lo hi:Int) (pl:Pl):Pl:=fun fr to pt st =>
 (freeE lo hi fr to pt++(pl pt (pt+1) (pt+2) st).1,(pl pt (pt+1) (pt+2) st).2)
def psRound (lo:Int) (ps:(Nat→Bool)→Nat→Bool):(Nat→Bool)→Nat→Bool:=fun ok st=>decide (lo=0)||ps ok st
theorem mem_freeE {lo hi:Int} {fr to pt:Nat} {e:Eg} (h:e∈freeE lo hi fr to pt) :
  e=⟨fr,pt,-1⟩∨e=⟨pt+1,to,-1⟩∨e=⟨pt+1,pt,-1⟩∨(lo=0∧e=⟨pt,pt+1,-1⟩):=by
 unfold freeE at h
 rcases List.mem_append.1 h with h|h
 ·rcases List.mem_append.1 h with h|h
  ·simp only [List.mem_cons,List.not_mem_nil,or_false] at h
   rcases h with h|h
   ·exact Or.inl h
   ·exact Or.inr (Or.inl h)
  ·by_cases hh:hi=1
   ·simp [hh] at h
   ·simp only [if_neg hh,List.mem_cons,List.not_mem_nil,or_false] at h
    exact Or.inr (Or.inr (Or.inl h))
 ·by_cases hh:lo=0
  ·simp only [if_pos hh,List.mem_cons,List.not_mem_nil,or_false] at h
   exact Or.inr (Or.inr (Or.inr ⟨hh,h⟩))
  ·simp [hh] at h
theorem freeE_st {lo hi:Int} {fr to pt:Nat} {e:Eg} (h:e∈freeE lo hi fr to pt):e.st = -1:=by
 rcases mem_freeE h with h|h|h|⟨_,h⟩ <;> rw [h]
section
variable {cnt:Nat} {pl:Pl} {ps:(Nat→Bool)→Nat→Bool} {rc:(Nat→Bool)→Nat→Nat→Bool}
theorem POk.round (H:POk cnt pl ps rc) (lo hi:Int):POk cnt (plRound lo hi pl) (psRound lo ps) rc where
 grow:=by
  intro fr to pt st
  exact Nat.le_trans (by omega) (H.grow pt (pt+1) (pt+2) st)
 points:=by
  intro fr to pt st h1 h2 e he
  have hg:=H.grow pt (pt+1) (pt+2) st
  simp only [plRound] at he ⊢
  rcases List.mem_append.1 he with he|he
  ·rcases mem_freeE he with h|h|h|⟨_,h⟩ <;> subst h <;> simp only <;> omega
  ·exact H.points pt (pt+1) (pt+2) st (by omega) (by omega) e he
 steps:=by
  intro fr to pt st e he
  simp only [plRound] at he
  rcases List.mem_append.1 he with he|he
  ·exact Or.inl (freeE_st he)
  ·exact H.steps pt (pt+1) (pt+2) st e he
 has:=by
  intro fr to pt st k h1 h2
  obtain ⟨e,he,hk⟩:=H.has pt (pt+1) (pt+2) st k h1 h2
  exact ⟨e,List.mem_append_right _ he,hk⟩
 one:=by
  intro fr to pt st e he f hf h0 hef
  simp only [plRound] at he hf
  rcases List.mem_append.1 he with he|he
  ·have:=freeE_st he;omega
  ·rcases List.mem_append.1 hf with hf|hf
   ·have:=freeE_st hf;omega
   ·exact H.one pt (pt+1) (pt+2) st e he f hf h0 hef
 up:=by
  intro ok fr to pt st S hS hfr
  simp only [plRound] at hS ⊢
  obtain ⟨hF,hE⟩:=Shuts.append.1 hS
  have ha:S pt:=hF ⟨fr,pt,-1⟩ (by simp [freeE]) (Or.inl (by simp)) hfr
  obtain ⟨u1,u2⟩:=H.up ok pt (pt+1) (pt+2) st S hE ha
  refine ⟨?_,?_⟩
  ·intro hp
   have hb:S (pt+1):=by
    simp only [psRound,Bool.or_eq_true,decide_eq_true_eq] at hp
    rcases hp with hp|hp
    ·exact hF ⟨pt,pt+1,-1⟩ (by simp [freeE,hp]) (Or.inl (by simp)) ha
    ·exact u1 hp
   exact hF ⟨pt+1,to,-1⟩ (by simp [freeE]) (Or.inl (by simp)) hb
  ·intro e he h0 hr
   rcases List.mem_append.1 he with he|he
   ·have:=freeE_st he;omega
   ·exact u2 e he h0 hr
 down:=by
  intro ok fr to pt st S0 h1 h2 h3
  have hps:psRound lo ps ok st=(decide (lo=0)||ps ok st):=rfl
  let T:Nat→Prop:=fun x=>if x<pt then S0 x else if x=pt then S0 fr else (S0 fr∧(decide (lo=0)||ps ok st)=true)
  have Ta:T pt↔S0 fr:=by simp [T]
  have Tb:T (pt+1)↔(S0 fr∧(decide (lo=0)||ps ok st)=true):=by
   have e1:¬pt+1<pt:=by omega
   have e2:¬pt+1=pt:=by omega
   simp only [T,if_neg e1,if_neg e2]
  have To:∀x,x<pt→(T x↔S0 x):=by intro x hx;simp [T,hx]
  obtain ⟨S1,k1,k2,k3⟩:=H.down ok pt (pt+1) (pt+2) st T (by omega) (by omega) (by
   intro ha hp
   rw [Tb];rw [Ta] at ha
   exact ⟨ha,by rw [hp];simp⟩)
  refine ⟨S1,?_,?_,?_⟩
  ·intro x hx
   rw [k1 x (by omega),To x hx]
  ·simp only [plRound]
   refine Shuts.append.2 ⟨?_,k2⟩
   intro e he _ hs
   have ka:S1 pt↔S0 fr:=by rw [k1 pt (by omega),Ta]
   have kb:S1 (pt+1)↔(S0 fr∧(decide (lo=0)||ps ok st)=true):=by rw [k1 (pt+1) (by omega),Tb]
   have kf:S1 fr↔S0 fr:=by rw [k1 fr (by omega),To fr h1]
   have kt:S1 to↔S0 to:=by rw [k1 to (by omega),To to h2]
   rcases mem_freeE he with h|h|h|⟨hl,h⟩
   ·subst h;simp only at hs ⊢;rw [ka];rw [kf] at hs;exact hs
   ·subst h;simp only at hs ⊢;rw [kb] at hs;rw [kt];exact h3 hs.1 (by rw [hps];exact hs.2)
   ·subst h;simp only at hs ⊢;rw [kb] at hs;rw [ka];exact hs.1
   ·subst h;simp only at hs ⊢;rw [ka] at hs;rw [kb];exact ⟨hs,by simp [hl]⟩
  ·intro e he h0
   simp only [plRound] at he
   rcases List.mem_append.1 he with he|he
   ·have:=freeE_st he;omega
   ·rw [k3 e he h0,Ta]
end
def plThen (n1:Nat) (p1 p2:Pl):Pl:=fun fr to pt st =>
 ((p1 fr pt (pt+1) st).1++(p2 pt to (p1 fr pt (pt+1) st).2 (st+n1)).1,(p2 pt to (p1 fr pt (pt+1) st).2 (st+n1)).2)
def psThen (n1:Nat) (s1 s2:(Nat→Bool)→Nat→Bool):(Nat→Bool)→Nat→Bool:=fun ok st=>s1 ok st&&s2 ok (st+n1)
def rcThen (n1:Nat) (s1:(Nat→Bool)→Nat→Bool) (r1 r2:(Nat→Bool)→Nat→Nat→Bool):(Nat→Bool)→Nat→Nat→Bool:=fun ok st k =>
 if k<st+n1 then r1 ok st k else s1 ok st&&r2 ok (st+n1) k
def plOr (n1:Nat) (p1 p2:Pl):Pl:=fun fr to pt st =>
 ((p1 fr to pt st).1++(p2 fr to (p1 fr to pt st).2 (st+n1)).1,(p2 fr to (p1 fr to pt st).2 (st+n1)).2)
def psOr (n1:Nat) (s1 s2:(Nat→Bool)→Nat→Bool):(Nat→Bool)→Nat→Bool:=fun ok st=>s1 ok st||s2 ok (st+n1)
def rcOr (n1:Nat) (r1 r2:(Nat→Bool)→Nat→Nat→Bool):(Nat→Bool)→Nat→Nat→Bool:=fun ok st k =>
 if k<st+n1 then r1 ok st k else r2 ok (st+n1) k
section
variable {n1 n2:Nat} {p1 p2:Pl} {s1 s2:(Nat→Bool)→Nat→Bool} {r1 r2:(Nat→Bool)→Nat→Nat→Bool}
theorem POk.lo (H:POk n1 p1 s1 r1) {fr to pt st:Nat} {e:Eg} (he:e∈(p1 fr to pt st).1) (h0:0≤e.st):st≤e.st.toNat∧e.st.toNat<st+n1:=by
 rcases H.steps fr to pt st e he with h|h <;> omega
theorem POk.then (H1:POk n1 p1 s1 r1) (H2:POk n2 p2 s2 r2):POk (n1+n2) (plThen n1 p1 p2) (psThen n1 s1 s2) (rcThen n1 s1 r1 r2) where
 grow:=by
  intro fr to pt st
  have h1:=H1.grow fr pt (pt+1) st
  have h2:=H2.grow pt to (p1 fr pt (pt+1) st).2 (st+n1)
  simp only [plThen];omega
 points:=by
  intro fr to pt st hf ht e he
  have h1:=H1.grow fr pt (pt+1) st
  have h2:=H2.grow pt to (p1 fr pt (pt+1) st).2 (st+n1)
  simp only [plThen] at he ⊢
  rcases List.mem_append.1 he with he|he
  ·have:=H1.points fr pt (pt+1) st (by omega) (by omega) e he
   omega
  ·exact H2.points pt to _ (st+n1) (by omega) (by omega) e he
 steps:=by
  intro fr to pt st e he
  simp only [plThen] at he
  rcases List.mem_append.1 he with he|he
  ·rcases H1.steps _ _ _ _ e he with h|h
   ·exact Or.inl h
   ·exact Or.inr (by omega)
  ·rcases H2.steps _ _ _ _ e he with h|h
   ·exact Or.inl h
   ·exact Or.inr (by omega)
 has:=by
  intro fr to pt st k h1 h2
  by_cases hk:k<st+n1
  ·obtain ⟨e,he,h⟩:=H1.has fr pt (pt+1) st k h1 hk
   exact ⟨e,List.mem_append_left _ he,h⟩
  ·obtain ⟨e,he,h⟩:=H2.has pt to (p1 fr pt (pt+1) st).2 (st+n1) k (by omega) (by omega)
   exact ⟨e,List.mem_append_right _ he,h⟩
 one:=by
  intro fr to pt st e he f hf h0 hef
  simp only [plThen] at he hf
  rcases List.mem_append.1 he with he|he <;> rcases List.mem_append.1 hf with hf|hf
  ·exact H1.one _ _ _ _ e he f hf h0 hef
  ·have a:=H1.lo he h0
   have b:=H2.lo hf (by omega)
   omega
  ·have a:=H2.lo he h0
   have b:=H1.lo hf (by omega)
   omega
  ·exact H2.one _ _ _ _ e he f hf h0 hef
 up:=by
  intro ok fr to pt st S hS hfr
  simp only [plThen] at hS ⊢
  obtain ⟨hA,hB⟩:=Shuts.append.1 hS
  obtain ⟨a1,a2⟩:=H1.up ok fr pt (pt+1) st S hA hfr
  refine ⟨?_,?_⟩
  ·intro hp
   simp only [psThen,Bool.and_eq_true] at hp
   exact (H2.up ok pt to _ (st+n1) S hB (a1 hp.1)).1 hp.2
  ·intro e he h0 hr
   rcases List.mem_append.1 he with he|he
   ·have:=H1.lo he h0
    simp only [rcThen,if_pos this.2] at hr
    exact a2 e he h0 hr
   ·have:=H2.lo he h0
    simp only [rcThen,if_neg (show ¬e.st.toNat<st+n1 by omega),Bool.and_eq_true] at hr
    exact (H2.up ok pt to _ (st+n1) S hB (a1 hr.1)).2 e he h0 hr.2
 down:=by
  intro ok fr to pt st S0 hf ht h3
  have g1:=H1.grow fr pt (pt+1) st
  let T:Nat→Prop:=fun x=>if x<pt then S0 x else (S0 fr∧s1 ok st=true)
  have To:∀x,x<pt→(T x↔S0 x):=by intro x hx;simp [T,hx]
  have Tm:T pt↔(S0 fr∧s1 ok st=true):=by simp [T]
  obtain ⟨A,k1,k2,k3⟩:=H1.down ok fr pt (pt+1) st T (by omega) (by omega) (by
   intro ha hp;rw [Tm];exact ⟨(To fr hf).1 ha,hp⟩)
  have Am:A pt↔(S0 fr∧s1 ok st=true):=by rw [k1 pt (by omega),Tm]
  have Ao:∀x,x<pt→(A x↔S0 x):=by intro x hx;rw [k1 x (by omega),To x hx]
  obtain ⟨B,m1,m2,m3⟩:=H2.down ok pt to (p1 fr pt (pt+1) st).2 (st+n1) A (by omega) (by omega) (by
   intro ha hp
   rw [Am] at ha
   rw [Ao to ht]
   exact h3 ha.1 (by simp only [psThen,ha.2,hp];rfl))
  have keep:∀x,x<(p1 fr pt (pt+1) st).2→(B x↔A x):=m1
  refine ⟨B,?_,?_,?_⟩
  ·intro x hx
   rw [keep x (by omega),Ao x hx]
  ·simp only [plThen]
   refine Shuts.append.2 ⟨?_,m2⟩
   intro e he hok hs
   obtain ⟨q1,q2⟩:=H1.points fr pt (pt+1) st (by omega) (by omega) e he
   rw [keep _ q2]
   rw [keep _ q1] at hs
   exact k2 e he hok hs
  ·intro e he h0
   simp only [plThen] at he
   rcases List.mem_append.1 he with he|he
   ·obtain ⟨q1,q2⟩:=H1.points fr pt (pt+1) st (by omega) (by omega) e he
    have:=H1.lo he h0
    rw [keep _ q1,k3 e he h0,To fr hf]
    simp only [rcThen,if_pos this.2]
   ·have:=H2.lo he h0
    rw [m3 e he h0,Am]
    simp only [rcThen,if_neg (show ¬e.st.toNat<st+n1 by omega),Bool.and_eq_true,and_assoc]
theorem POk.or (H1:POk n1 p1 s1 r1) (H2:POk n2 p2 s2 r2):POk (n1+n2) (plOr n1 p1 p2) (psOr n1 s1 s2) (rcOr n1 r1 r2) where
 grow:=by
  intro fr to pt st
  have h1:=H1.grow fr to pt st
  have h2:=H2.grow fr to (p1 fr to pt st).2 (st+n1)
  simp only [plOr];omega
 points:=by
  intro fr to pt st hf ht e he
  have h1:=H1.grow fr to pt st
  have h2:=H2.grow fr to (p1 fr to pt st).2 (st+n1)
  simp only [plOr] at he ⊢
  rcases List.mem_append.1 he with he|he
  ·have:=H1.points fr to pt st (by omega) (by omega) e he
   omega
  ·exact H2.points fr to _ (st+n1) (by omega) (by omega) e he
 steps:=by
  intro fr to pt st e he
  simp only [plOr] at he
  rcases List.mem_append.1 he with he|he
  ·rcases H1.steps _ _ _ _ e he with h|h
   ·exact Or.inl h
   ·exact Or.inr (by omega)
  ·rcases H2.steps _ _ _ _ e he with h|h
   ·exact Or.inl h
   ·exact Or.inr (by omega)
 has:=by
  intro fr to pt st k h1 h2
  by_cases hk:k<st+n1
  ·obtain ⟨e,he,h⟩:=H1.has fr to pt st k h1 hk
   exact ⟨e,List.mem_append_left _ he,h⟩
  ·obtain ⟨e,he,h⟩:=H2.has fr to (p1 fr to pt st).2 (st+n1) k (by omega) (by omega)
   exact ⟨e,List.mem_append_right _ he,h⟩
 one:=by
  intro fr to pt st e he f hf h0 hef
  simp only [plOr] at he hf
  rcases List.mem_append.1 he with he|he <;> rcases List.mem_append.1 hf with hf|hf
  ·exact H1.one _ _ _ _ e he f hf h0 hef
  ·have a:=H1.lo he h0
   have b:=H2.lo hf (by omega)
   omega
  ·have a:=H2.lo he h0
   have b:=H1.lo hf (by omega)
   omega
  ·exact H2.one _ _ _ _ e he f hf h0 hef
 up:=by
  intro ok fr to pt st S hS hfr
  simp only [plOr] at hS ⊢
  obtain ⟨hA,hB⟩:=Shuts.append.1 hS
  obtain ⟨a1,a2⟩:=H1.up ok fr to pt st S hA hfr
  obtain ⟨b1,b2⟩:=H2.up ok fr to _ (st+n1) S hB hfr
  refine ⟨?_,?_⟩
  ·intro hp
   simp only [psOr,Bool.or_eq_true] at hp
   rcases hp with hp|hp
   ·exact a1 hp
   ·exact b1 hp
  ·intro e he h0 hr
   rcases List.mem_append.1 he with he|he
   ·have:=H1.lo he h0
    simp only [rcOr,if_pos this.2] at hr
    exact a2 e he h0 hr
   ·have:=H2.lo he h0
    simp only [rcOr,if_neg (show ¬e.st.toNat<st+n1 by omega)] at hr
    exact b2 e he h0 hr
 down:=by
  intro ok fr to pt st S0 hf ht h3
  have g1:=H1.grow fr to pt st
  obtain ⟨A,k1,k2,k3⟩:=H1.down ok fr to pt st S0 hf ht (by
   intro ha hp;exact h3 ha (by simp only [psOr,hp];rfl))
  obtain ⟨B,m1,m2,m3⟩:=H2.down ok fr to (p1 fr to pt st).2 (st+n1) A (by omega) (by omega) (by
   intro ha hp
   rw [k1 fr hf] at ha
   rw [k1 to ht]
   exact h3 ha (by simp only [psOr,hp,Bool.or_true]))
  refine ⟨B,?_,?_,?_⟩
  ·intro x hx
   rw [m1 x (by omega),k1 x hx]
  ·simp only [plOr]
   refine Shuts.append.2 ⟨?_,m2⟩
   intro e he hok hs
   obtain ⟨q1,q2⟩:=H1.points fr to pt st hf ht e he
   rw [m1 _ q2]
   rw [m1 _ q1] at hs
   exact k2 e he hok hs
  ·intro e he h0
   simp only [plOr] at he
   rcases List.mem_append.1 he with he|he
   ·obtain ⟨q1,q2⟩:=H1.points fr to pt st hf ht e he
    have:=H1.lo he h0
    rw [m1 _ q1,k3 e he h0]
    simp only [rcOr,if_pos this.2]
   ·have:=H2.lo he h0
    rw [m3 e he h0,k1 fr hf]
    simp only [rcOr,if_neg (show ¬e.st.toNat<st+n1 by omega)]
end
def plOne:Pl:=fun fr to pt st=>([⟨fr,to,(st:Int)⟩],pt)
def psOne:(Nat→Bool)→Nat→Bool:=fun ok st=>ok st
def rcOne:(Nat→Bool)→Nat→Nat→Bool:=fun _ _ _=>true
theorem POk.step:POk 1 plOne psOne rcOne where
 grow:=by intro fr to pt st;exact Nat.le_refl _
 points:=by
  intro fr to pt st hf ht e he
  simp only [plOne,List.mem_cons,List.not_mem_nil,or_false] at he ⊢
  subst he;exact ⟨hf,ht⟩
 steps:=by
  intro fr to pt st e he
  simp only [plOne,List.mem_cons,List.not_mem_nil,or_false] at he
  subst he;exact Or.inr ⟨Int.le_refl _,by simp only;omega⟩
 has:=by
  intro fr to pt st k h1 h2
  have:k=st:=by omega
  subst this
  exact ⟨⟨fr,to,(k:Int)⟩,by simp [plOne],rfl⟩
 one:=by
  intro fr to pt st e he f hf _ _
  simp only [plOne,List.mem_cons,List.not_mem_nil,or_false] at he hf
  rw [he,hf]
 up:=by
  intro ok fr to pt st S hS hfr
  refine ⟨?_,?_⟩
  ·intro hp
   exact hS ⟨fr,to,(st:Int)⟩ (by simp [plOne]) (Or.inr (by simpa [psOne] using hp)) hfr
  ·intro e he _ _
   simp only [plOne,List.mem_cons,List.not_mem_nil,or_false] at he
   subst he;exact hfr
 down:=by
  intro ok fr to pt st S0 hf ht h3
  refine ⟨S0,fun _ _=>Iff.rfl,?_,?_⟩
  ·intro e he hok hs
   simp only [plOne,List.mem_cons,List.not_mem_nil,or_false] at he
   subst he
   rcases hok with h|h
   ·simp only at h;omega
   ·exact h3 hs (by simpa [psOne] using h)
  ·intro e he _
   simp only [plOne,List.mem_cons,List.not_mem_nil,or_false] at he
   subst he
   simp [rcOne]
end
section
structure Part where
 cnt:Nat
 pl:Pl
 ps:(Nat→Bool)→Nat→Bool
 rc:(Nat→Bool)→Nat→Nat→Bool
def Part.Ok (P:Part):Prop:=POk P.cnt P.pl P.ps P.rc
def Part.round (lo hi:Int) (P:Part):Part:=⟨P.cnt,plRound lo hi P.pl,psRound lo P.ps,P.rc⟩
def Part.andThen (P Q:Part):Part:=⟨P.cnt+Q.cnt,plThen P.cnt P.pl Q.pl,psThen P.cnt P.ps Q.ps,rcThen P.cnt P.ps P.rc Q.rc⟩
def Part.orElse (P Q:Part):Part:=⟨P.cnt+Q.cnt,plOr P.cnt P.pl Q.pl,psOr P.cnt P.ps Q.ps,rcOr P.cnt P.rc Q.rc⟩
def Part.one:Part:=⟨1,plOne,psOne,rcOne⟩
structure Hand where
 cnt:Nat
 addM:(Nat→Int)→Int→Nat→Bool
 addS:(Nat→Int)→Int→Nat→Bool
 svM:(Nat→Int)→Int→Bool→Nat→Nat→Bool
 svS:(Nat→Int)→Int→Bool→Nat→Nat→Bool
 ir:Bool→Nat→Nat→Bool
def Hand.one:Hand:=⟨1,fun nm x st=>decide (nm st=x),fun nm x st=>decide (nm st=x),fun _ _ r _ _=>r,fun _ _ r _ _=>r,fun d _ _=>d⟩
def Hand.round (H:Hand):Hand:=⟨H.cnt,fun _ _ _=>false,fun _ _ _=>false,H.svM,H.svS,fun _ st k=>H.ir true st k⟩
def Hand.andThen (H K:Hand):Hand where
 cnt:=H.cnt+K.cnt
 addM:=fun nm x st=>H.addM nm x st||K.addM nm x (st+H.cnt)
 addS:=fun nm x st=>H.addS nm x st||K.addS nm x (st+H.cnt)
 svM:=fun nm x r st k=>if k<st+H.cnt then H.svM nm x r st k else K.svM nm x (r||H.addM nm x st) (st+H.cnt) k
 svS:=fun nm x r st k=>if k<st+H.cnt then H.svS nm x r st k else K.svS nm x (r||H.addS nm x st) (st+H.cnt) k
 ir:=fun d st k=>if k<st+H.cnt then H.ir d st k else K.ir d (st+H.cnt) k
def Hand.orElse (H K:Hand):Hand where
 cnt:=H.cnt+K.cnt
 addM:=fun nm x st=>H.addM nm x st||K.addM nm x (st+H.cnt)
 addS:=fun nm x st=>H.addS nm x st&&K.addS nm x (st+H.cnt)
 svM:=fun nm x r st k=>if k<st+H.cnt then H.svM nm x r st k else K.svM nm x r (st+H.cnt) k
 svS:=fun nm x r st k=>if k<st+H.cnt then H.svS nm x r st k else K.svS nm x r (st+H.cnt) k
 ir:=fun d st k=>if k<st+H.cnt then H.ir d st k else K.ir d (st+H.cnt) k
structure Both (P:Part) (H:Hand):Prop where
 cnt:P.cnt=H.cnt
 ok:P.Ok
 deep:∀st k,st≤k→k<st+H.cnt→H.ir true st k=true
 free:∀(nm:Nat→Int) (x:Int) st,(∀i,st≤i→i<st+H.cnt→¬nm i=x)→P.ps (fun i=>decide (¬nm i=x)) st=true
 pass:∀(nm:Nat→Int) (x:Int) st,(∀i,st≤i→i<st+H.cnt→H.ir false st i=true→¬nm i=x)→P.ps (fun i=>decide (¬nm i=x)) st = !(H.addS nm x st)
 svT:∀(nm:Nat→Int) (x:Int) st k,st≤k→k<st+H.cnt→H.svS nm x true st k=true
 rcT:∀(nm:Nat→Int) (x:Int) st k,st≤k→k<st+H.cnt→(∀i,st≤i→i<k→¬nm i=x)→P.rc (fun i=>decide (¬nm i=x)) st k=true
 svF:∀(nm:Nat→Int) (x:Int) st k,st≤k→k<st+H.cnt→(∀i,st≤i→i<k→¬nm i=x)→H.svS nm x false st k=false
 reach:∀(nm:Nat→Int) (x:Int) st k,st≤k→k<st+H.cnt→(∀i,st≤i→i<k→H.ir false st i=true→¬nm i=x)→P.rc (fun i=>decide (¬nm i=x)) st k = !(H.svS nm x false st k)
theorem Both.one:Both Part.one Hand.one where
 cnt:=rfl
 ok:=POk.step
 deep:=by intro st k _ _;rfl
 free:=by
  intro nm x st h
  have:=h st (Nat.le_refl _) (by simp [Hand.one])
  simp [Part.one,psOne,this]
 pass:=by
  intro nm x st _
  simp only [Part.one,psOne,Hand.one]
  by_cases h:nm st=x <;> simp [h]
 svT:=by intro nm x st k _ _;rfl
 rcT:=by intro nm x st k _ _ _;rfl
 svF:=by intro nm x st k _ _ _;rfl
 reach:=by intro nm x st k _ _ _;rfl
section
variable {P Q:Part} {H K:Hand}
theorem Both.round (B:Both P H) (lo hi:Int):Both (P.round lo hi) H.round where
 cnt:=B.cnt
 ok:=POk.round B.ok lo hi
 deep:=by intro st k h1 h2;exact B.deep st k h1 h2
 free:=by
  intro nm x st h
  simp only [Part.round,psRound,Bool.or_eq_true]
  exact Or.inr (B.free nm x st h)
 pass:=by
  intro nm x st h
  have:∀i,st≤i→i<st+H.cnt→¬nm i=x:=fun i h1 h2=>h i h1 h2 (B.deep st i h1 h2)
  simp only [Part.round,psRound,Hand.round,B.free nm x st this]
  simp
 svT:=B.svT
 rcT:=B.rcT
 svF:=B.svF
 reach:=by
  intro nm x st k h1 h2 h
  have h':∀i,st≤i→i<k→¬nm i=x:=fun i a b=>h i a b (B.deep st i a (by have:H.round.cnt=H.cnt:=rfl;omega))
  rw [show (P.round lo hi).rc=P.rc from rfl,B.rcT nm x st k h1 h2 h']
  show true = !(H.svS nm x false st k)
  rw [B.svF nm x st k h1 h2 h']
  rfl
theorem Both.andThen (B:Both P H) (C:Both Q K):Both (P.andThen Q) (H.andThen K) where
 cnt:=by simp only [Part.andThen,Hand.andThen,B.cnt,C.cnt]
 ok:=POk.then B.ok C.ok
 deep:=by
  intro st k h1 h2
  simp only [Hand.andThen] at h2 ⊢
  by_cases h:k<st+H.cnt
  ·simp only [if_pos h];exact B.deep st k h1 h
  ·simp only [if_neg h];exact C.deep (st+H.cnt) k (by omega) (by omega)
 free:=by
  intro nm x st h
  simp only [Hand.andThen] at h
  simp only [Part.andThen,psThen,B.cnt,Bool.and_eq_true]
  exact ⟨B.free nm x st (fun i a b=>h i a (by omega)),C.free nm x (st+H.cnt) (fun i a b=>h i (by omega) (by omega))⟩
 pass:=by
  intro nm x st h
  simp only [Hand.andThen] at h
  have h1:=B.pass nm x st (fun i a b c=>h i a (by omega) (by simp only [if_pos b];exact c))
  have h2:=C.pass nm x (st+H.cnt) (fun i a b c=>h i (by omega) (by omega) (by simp only [if_neg (show ¬i<st+H.cnt by omega)];exact c))
  simp only [Part.andThen,psThen,B.cnt,Hand.andThen,h1,h2,Bool.not_or]
 svT:=by
  intro nm x st k h1 h2
  simp only [Hand.andThen] at h2 ⊢
  by_cases h:k<st+H.cnt
  ·simp only [if_pos h];exact B.svT nm x st k h1 h
  ·simp only [if_neg h,Bool.true_or];exact C.svT nm x (st+H.cnt) k (by omega) (by omega)
 rcT:=by
  intro nm x st k h1 h2 hn
  simp only [Hand.andThen] at h2
  simp only [Part.andThen,rcThen,B.cnt]
  by_cases h:k<st+H.cnt
  ·simp only [if_pos h];exact B.rcT nm x st k h1 h hn
  ·simp only [if_neg h,Bool.and_eq_true]
   exact ⟨B.free nm x st (fun i a b=>hn i a (by omega)),C.rcT nm x (st+H.cnt) k (by omega) (by omega) (fun i a b=>hn i (by omega) b)⟩
 svF:=by
  intro nm x st k h1 h2 hn
  simp only [Hand.andThen] at h2 ⊢
  by_cases h:k<st+H.cnt
  ·simp only [if_pos h];exact B.svF nm x st k h1 h hn
  ·have hp:=B.pass nm x st (fun i a b _=>hn i a (by omega))
   rw [B.free nm x st (fun i a b=>hn i a (by omega))] at hp
   have ha:H.addS nm x st=false:=by
    cases e:H.addS nm x st with
    | false=>rfl
    | true=>rw [e] at hp;cases hp
   simp only [if_neg h,ha,Bool.or_false]
   exact C.svF nm x (st+H.cnt) k (by omega) (by omega) (fun i a b=>hn i (by omega) b)
 reach:=by
  intro nm x st k h1 h2 hn
  simp only [Hand.andThen] at h2 hn
  simp only [Part.andThen,rcThen,B.cnt,Hand.andThen]
  by_cases h:k<st+H.cnt
  ·simp only [if_pos h]
   exact B.reach nm x st k h1 h (fun i a b c=>hn i a b (by simp only [if_pos (show i<st+H.cnt by omega)];exact c))
  ·simp only [if_neg h]
   have hp:=B.pass nm x st (fun i a b c=>hn i a (by omega) (by simp only [if_pos b];exact c))
   have hr:=C.reach nm x (st+H.cnt) k (by omega) (by omega) (fun i a b c=>hn i (by omega) b (by simp only [if_neg (show ¬i<st+H.cnt by omega)];exact c))
   rw [hp,hr]
   cases e:H.addS nm x st with
   | false=>simp
   | true =>
    simp only [Bool.not_true,Bool.false_and,Bool.or_true]
    rw [C.svT nm x (st+H.cnt) k (by omega) (by omega)]
    rfl
theorem Both.orElse (B:Both P H) (C:Both Q K):Both (P.orElse Q) (H.orElse K) where
 cnt:=by simp only [Part.orElse,Hand.orElse,B.cnt,C.cnt]
 ok:=POk.or B.ok C.ok
 deep:=by
  intro st k h1 h2
  simp only [Hand.orElse] at h2 ⊢
  by_cases h:k<st+H.cnt
  ·simp only [if_pos h];exact B.deep st k h1 h
  ·simp only [if_neg h];exact C.deep (st+H.cnt) k (by omega) (by omega)
 free:=by
  intro nm x st h
  simp only [Hand.orElse] at h
  simp only [Part.orElse,psOr,B.cnt,Bool.or_eq_true]
  exact Or.inl (B.free nm x st (fun i a b=>h i a (by omega)))
 pass:=by
  intro nm x st h
  simp only [Hand.orElse] at h
  have h1:=B.pass nm x st (fun i a b c=>h i a (by omega) (by simp only [if_pos b];exact c))
  have h2:=C.pass nm x (st+H.cnt) (fun i a b c=>h i (by omega) (by omega) (by simp only [if_neg (show ¬i<st+H.cnt by omega)];exact c))
  simp only [Part.orElse,psOr,B.cnt,Hand.orElse,h1,h2,Bool.not_and]
 svT:=by
  intro nm x st k h1 h2
  simp only [Hand.orElse] at h2 ⊢
  by_cases h:k<st+H.cnt
  ·simp only [if_pos h];exact B.svT nm x st k h1 h
  ·simp only [if_neg h];exact C.svT nm x (st+H.cnt) k (by omega) (by omega)
 rcT:=by
  intro nm x st k h1 h2 hn
  simp only [Hand.orElse] at h2
  simp only [Part.orElse,rcOr,B.cnt]
  by_cases h:k<st+H.cnt
  ·simp only [if_pos h];exact B.rcT nm x st k h1 h hn
  ·simp only [if_neg h]
   exact C.rcT nm x (st+H.cnt) k (by omega) (by omega) (fun i a b=>hn i (by omega) b)
 svF:=by
  intro nm x st k h1 h2 hn
  simp only [Hand.orElse] at h2 ⊢
  by_cases h:k<st+H.cnt
  ·simp only [if_pos h];exact B.svF nm x st k h1 h hn
  ·simp only [if_neg h]
   exact C.svF nm x (st+H.cnt) k (by omega) (by omega) (fun i a b=>hn i (by omega) b)
 reach:=by
  intro nm x st k h1 h2 hn
  simp only [Hand.orElse] at h2 hn
  simp only [Part.orElse,rcOr,B.cnt,Hand.orElse]
  by_cases h:k<st+H.cnt
  ·simp only [if_pos h]
   exact B.reach nm x st k h1 h (fun i a b c=>hn i a b (by simp only [if_pos (show i<st+H.cnt by omega)];exact c))
  ·simp only [if_neg h]
   exact C.reach nm x (st+H.cnt) k (by omega) (by omega) (fun i a b c=>hn i (by omega) b (by simp only [if_neg (show ¬i<st+H.cnt by omega)];exact c))
end
end
end Go.Proofs.YtcboiapggnmpfaaGreat
