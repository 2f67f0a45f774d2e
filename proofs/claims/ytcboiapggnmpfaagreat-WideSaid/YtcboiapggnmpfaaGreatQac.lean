import Derived.Test.YtcboiapggnmpfaaGreatQab
namespace Go.Proofs.YtcboiapggnmpfaaGreat
section
def allOk:Nat→Bool:=fun _=>true
abbrev Ah:=Nat→Nat→Nat→Bool
def ahOne:Ah:=fun _ _ _=>false
def ahThen (n:Nat) (a b:Ah):Ah:=fun i st k =>
 if i<st+n then (if k<st+n then a i st k else true) else (if k<st+n then false else b i (st+n) k)
def ahOr (n:Nat) (a b:Ah):Ah:=fun i st k =>
 if i<st+n then (if k<st+n then a i st k else false) else (if k<st+n then false else b i (st+n) k)
def ahRound:Ah:=fun _ _ _=>true
structure Fwd (P:Part) (H:Hand) (ah:Ah):Prop where
 both:Both P H
 psA:∀st,P.ps allOk st=true
 rcA:∀st k,st≤k→k<st+H.cnt→P.rc allOk st k=true
 up:∀fr to pt st S i,st≤i→i<st+H.cnt→Shuts allOk (P.pl fr to pt st).1 S→(∀e∈(P.pl fr to pt st).1,e.st=(i:Int)→S e.to) →
  S to∧∀e∈(P.pl fr to pt st).1,0≤e.st→H.ir false st e.st.toNat=false→ah i st e.st.toNat=true→S e.fr
 down:∀fr to pt st (S0:Nat→Prop) i,st≤i→i<st+H.cnt→fr<pt→to<pt→S0 to →
  ∃S1:Nat→Prop,(∀x,x<pt→(S1 x↔S0 x))∧Shuts allOk (P.pl fr to pt st).1 S1∧(∀e∈(P.pl fr to pt st).1,e.st=(i:Int)→S1 e.to) ∧
   ∀e∈(P.pl fr to pt st).1,0≤e.st→H.ir false st e.st.toNat=false→(S1 e.fr↔(S0 fr∨ah i st e.st.toNat=true))
 lt:∀st i k,st≤i→i<st+H.cnt→st≤k→k<st+H.cnt→H.ir false st k=false→ah i st k=true→i<k
 addM:∀(nm:Nat→Int) (x:Int) st,H.addM nm x st=true↔∃i,st≤i∧i<st+H.cnt∧H.ir false st i=false∧nm i=x
 svM:∀(nm:Nat→Int) (x:Int) r st k,st≤k→k<st+H.cnt→H.ir false st k=false →
  (H.svM nm x r st k=true↔(r=true∨∃i,st≤i∧i<st+H.cnt∧H.ir false st i=false∧nm i=x∧ah i st k=true))
theorem Fwd.one:Fwd Part.one Hand.one ahOne where
 both:=Both.one
 psA:=by intro st;rfl
 rcA:=by intro st k _ _;rfl
 up:=by
  intro fr to pt st S i h1 h2 hS hi
  have:i=st:=by simp only [Hand.one] at h2;omega
  subst this
  refine ⟨hi ⟨fr,to,(i:Int)⟩ (by simp [Part.one,plOne]) rfl,?_⟩
  intro e _ _ _ h
  simp [ahOne] at h
 down:=by
  intro fr to pt st S0 i h1 h2 hf ht h0
  refine ⟨S0,fun _ _=>Iff.rfl,?_,?_,?_⟩
  ·intro e he _ _
   simp only [Part.one,plOne,List.mem_cons,List.not_mem_nil,or_false] at he
   subst he;exact h0
  ·intro e he _
   simp only [Part.one,plOne,List.mem_cons,List.not_mem_nil,or_false] at he
   subst he;exact h0
  ·intro e he _ _
   simp only [Part.one,plOne,List.mem_cons,List.not_mem_nil,or_false] at he
   subst he;simp [ahOne]
 lt:=by intro st i k _ _ _ _ _ h;simp [ahOne] at h
 addM:=by
  intro nm x st
  simp only [Hand.one,decide_eq_true_eq]
  constructor
  ·intro h;exact ⟨st,Nat.le_refl _,by omega,trivial,h⟩
  ·rintro ⟨i,h1,h2,_,h⟩
   have:i=st:=by omega
   subst this;exact h
 svM:=by
  intro nm x r st k _ _ _
  simp [Hand.one,ahOne]
section
variable {P Q:Part} {H K:Hand} {a b:Ah}
theorem Fwd.round (F : Fwd P H a) (lo hi : Int) : Fwd (P.round lo hi) H.round ahRound where
  both := F.both.round lo hi
  psA := by intro st; simp [Part.round, psRound, F.psA]
  rcA := F.rcA
  up := by
    intro fr to pt st S i h1 h2 hS hi
    simp only [Part.round, plRound] at hS hi ⊢
    obtain ⟨hF, hE⟩ := Shuts.append.1 hS
    obtain ⟨u1, _⟩ := F.up pt (pt + 1) (pt + 2) st S i h1 h2 hE (fun e he hk => hi e (List.mem_append_right _ he) hk)
    refine ⟨hF ⟨pt + 1, to, -1⟩ (by simp [freeE]) (Or.inl (by simp)) u1, ?_⟩
    intro e he h0 hr
    exfalso
    rcases List.mem_append.1 he with he | he
    · have := freeE_st he; omega
    · have hl := F.both.ok.lo he h0
      rw [F.both.cnt] at hl
      have : H.ir true st e.st.toNat = false := hr
      rw [F.both.deep st _ hl.1 hl.2] at this
      cases this
  down := by
    intro fr to pt st S0 i h1 h2 hf ht h0
    let T : Nat → Prop := fun x => if x < pt then S0 x else True
    have To : ∀ x, x < pt → (T x ↔ S0 x) := by intro x hx; simp [T, hx]
    have Tn : ∀ x, pt ≤ x → T x := by intro x hx; have : ¬ x < pt := by omega
                                      simp [T, this]
    obtain ⟨S1, k1, k2, k3, k4⟩ := F.down pt (pt + 1) (pt + 2) st T i h1 h2 (by omega) (by omega) (Tn _ (by omega))
    refine ⟨S1, ?_, ?_, ?_, ?_⟩
    · intro x hx; rw [k1 x (by omega), To x hx]
    · simp only [Part.round, plRound]
      refine Shuts.append.2 ⟨?_, k2⟩
      intro e he _ _
      have ka : S1 pt := (k1 pt (by omega)).2 (Tn _ (Nat.le_refl _))
      have kb : S1 (pt + 1) := (k1 (pt + 1) (by omega)).2 (Tn _ (by omega))
      have kt : S1 to := (k1 to (by omega)).2 ((To to ht).2 h0)
      rcases mem_freeE he with h | h | h | ⟨_, h⟩ <;> subst h <;> assumption
    · intro e he hk
      simp only [Part.round, plRound] at he
      rcases List.mem_append.1 he with he | he
      · have := freeE_st he; omega
      · exact k3 e he hk
    · intro e he hk0 hr
      exfalso
      simp only [Part.round, plRound] at he
      rcases List.mem_append.1 he with he | he
      · have := freeE_st he; omega
      · have hl := F.both.ok.lo he hk0
        rw [F.both.cnt] at hl
        have : H.ir true st e.st.toNat = false := hr
        rw [F.both.deep st _ hl.1 hl.2] at this
        cases this
  lt := by
    intro st i k _ _ h1 h2 hr _
    have : H.ir true st k = false := hr
    rw [F.both.deep st k h1 h2] at this
    cases this
  addM := by
    intro nm x st
    constructor
    · intro h; cases h
    · rintro ⟨i, h1, h2, hr, _⟩
      have : H.ir true st i = false := hr
      rw [F.both.deep st i h1 h2] at this
      cases this
  svM := by
    intro nm x r st k h1 h2 hr
    have : H.ir true st k = false := hr
    rw [F.both.deep st k h1 h2] at this
    cases this
theorem Fwd.andThen (F:Fwd P H a) (G:Fwd Q K b):Fwd (P.andThen Q) (H.andThen K) (ahThen H.cnt a b) where
 both:=F.both.andThen G.both
 psA:=by intro st;simp [Part.andThen,psThen,F.psA,G.psA]
 rcA:=by
  intro st k h1 h2
  simp only [Hand.andThen] at h2
  simp only [Part.andThen,rcThen,F.both.cnt,F.psA]
  by_cases h:k<st+H.cnt
  ·simp only [if_pos h];exact F.rcA st k h1 h
  ·simp only [if_neg h,Bool.true_and];exact G.rcA (st+H.cnt) k (by omega) (by omega)
 up:=by
  intro fr to pt st S i h1 h2 hS hi
  simp only [Hand.andThen] at h2
  simp only [Part.andThen,plThen,F.both.cnt] at hS hi ⊢
  obtain ⟨hA,hB⟩:=Shuts.append.1 hS
  by_cases hil:i<st+H.cnt
  ·obtain ⟨u1,u2⟩:=F.up fr pt (pt+1) st S i h1 hil hA (fun e he hk=>hi e (List.mem_append_left _ he) hk)
   have v:=G.both.ok.up allOk pt to _ (st+H.cnt) S hB u1
   refine ⟨v.1 (G.psA _),?_⟩
   intro e he h0 hr hah
   rcases List.mem_append.1 he with he|he
   ·have hl:=F.both.ok.lo he h0
    rw [F.both.cnt] at hl
    simp only [Hand.andThen,if_pos hl.2] at hr
    simp only [ahThen,if_pos hil,if_pos hl.2] at hah
    exact u2 e he h0 hr hah
   ·have hl:=G.both.ok.lo he h0
    rw [G.both.cnt] at hl
    exact v.2 e he h0 (G.rcA _ _ hl.1 hl.2)
  ·obtain ⟨u1,u2⟩:=G.up pt to _ (st+H.cnt) S i (by omega) (by omega) hB (fun e he hk=>hi e (List.mem_append_right _ he) hk)
   refine ⟨u1,?_⟩
   intro e he h0 hr hah
   rcases List.mem_append.1 he with he|he
   ·have hl:=F.both.ok.lo he h0
    rw [F.both.cnt] at hl
    simp only [ahThen,if_neg hil,if_pos hl.2] at hah
    cases hah
   ·have hl:=G.both.ok.lo he h0
    rw [G.both.cnt] at hl
    have hnl:¬e.st.toNat<st+H.cnt:=by omega
    simp only [Hand.andThen,if_neg hnl] at hr
    simp only [ahThen,if_neg hil,if_neg hnl] at hah
    exact u2 e he h0 hr hah
 down:=by
  intro fr to pt st S0 i h1 h2 hf ht h0
  simp only [Hand.andThen] at h2
  have g1:=F.both.ok.grow fr pt (pt+1) st
  by_cases hil:i<st+H.cnt
  ·let T:Nat→Prop:=fun x=>if x<pt then S0 x else True
   have To:∀x,x<pt→(T x↔S0 x):=by intro x hx;simp [T,hx]
   have Tm:T pt:=by simp [T]
   obtain ⟨A,k1,k2,k3,k4⟩:=F.down fr pt (pt+1) st T i h1 hil (by omega) (by omega) Tm
   have Am:A pt:=(k1 pt (by omega)).2 Tm
   have Ao:∀x,x<pt→(A x↔S0 x):=by intro x hx;rw [k1 x (by omega),To x hx]
   obtain ⟨B,m1,m2,m3⟩:=G.both.ok.down allOk pt to (P.pl fr pt (pt+1) st).2 (st+H.cnt) A (by omega) (by omega) (fun _ _=>(Ao to ht).2 h0)
   refine ⟨B,?_,?_,?_,?_⟩
   ·intro x hx;rw [m1 x (by omega),Ao x hx]
   ·simp only [Part.andThen,plThen,F.both.cnt]
    refine Shuts.append.2 ⟨?_,m2⟩
    intro e he hok hs
    obtain ⟨q1,q2⟩:=F.both.ok.points fr pt (pt+1) st (by omega) (by omega) e he
    rw [m1 _ q2];rw [m1 _ q1] at hs
    exact k2 e he hok hs
   ·intro e he hk
    simp only [Part.andThen,plThen,F.both.cnt] at he
    rcases List.mem_append.1 he with he|he
    ·obtain ⟨q1,q2⟩:=F.both.ok.points fr pt (pt+1) st (by omega) (by omega) e he
     rw [m1 _ q2];exact k3 e he hk
    ·have hl:=G.both.ok.lo he (by omega)
     omega
   ·intro e he hk0 hr
    simp only [Part.andThen,plThen,F.both.cnt] at he
    rcases List.mem_append.1 he with he|he
    ·have hl:=F.both.ok.lo he hk0
     rw [F.both.cnt] at hl
     obtain ⟨q1,q2⟩:=F.both.ok.points fr pt (pt+1) st (by omega) (by omega) e he
     simp only [Hand.andThen,if_pos hl.2] at hr
     rw [m1 _ q1,k4 e he hk0 hr,To fr hf]
     simp only [ahThen,if_pos hil,if_pos hl.2]
    ·have hl:=G.both.ok.lo he hk0
     rw [G.both.cnt] at hl
     have hnl:¬e.st.toNat<st+H.cnt:=by omega
     rw [m3 e he hk0,G.rcA _ _ hl.1 hl.2]
     simp only [ahThen,if_pos hil,if_neg hnl]
     simp [Am]
  ·let T:Nat→Prop:=fun x=>if x<pt then S0 x else S0 fr
   have To:∀x,x<pt→(T x↔S0 x):=by intro x hx;simp [T,hx]
   have Tm:T pt↔S0 fr:=by simp [T]
   obtain ⟨A,k1,k2,k3⟩:=F.both.ok.down allOk fr pt (pt+1) st T (by omega) (by omega) (fun h _=>Tm.2 ((To fr hf).1 h))
   have Am:A pt↔S0 fr:=by rw [k1 pt (by omega),Tm]
   have Ao:∀x,x<pt→(A x↔S0 x):=by intro x hx;rw [k1 x (by omega),To x hx]
   obtain ⟨B,m1,m2,m3,m4⟩:=G.down pt to (P.pl fr pt (pt+1) st).2 (st+H.cnt) A i (by omega) (by omega) (by omega) (by omega) ((Ao to ht).2 h0)
   refine ⟨B,?_,?_,?_,?_⟩
   ·intro x hx;rw [m1 x (by omega),Ao x hx]
   ·simp only [Part.andThen,plThen,F.both.cnt]
    refine Shuts.append.2 ⟨?_,m2⟩
    intro e he hok hs
    obtain ⟨q1,q2⟩:=F.both.ok.points fr pt (pt+1) st (by omega) (by omega) e he
    rw [m1 _ q2];rw [m1 _ q1] at hs
    exact k2 e he hok hs
   ·intro e he hk
    simp only [Part.andThen,plThen,F.both.cnt] at he
    rcases List.mem_append.1 he with he|he
    ·have hl:=F.both.ok.lo he (by omega)
     rw [F.both.cnt] at hl
     omega
    ·exact m3 e he hk
   ·intro e he hk0 hr
    simp only [Part.andThen,plThen,F.both.cnt] at he
    rcases List.mem_append.1 he with he|he
    ·have hl:=F.both.ok.lo he hk0
     rw [F.both.cnt] at hl
     obtain ⟨q1,q2⟩:=F.both.ok.points fr pt (pt+1) st (by omega) (by omega) e he
     rw [m1 _ q1,k3 e he hk0,F.rcA _ _ hl.1 hl.2,To fr hf]
     simp only [ahThen,if_neg hil,if_pos hl.2]
     simp
    ·have hl:=G.both.ok.lo he hk0
     rw [G.both.cnt] at hl
     have hnl:¬e.st.toNat<st+H.cnt:=by omega
     simp only [Hand.andThen,if_neg hnl] at hr
     rw [m4 e he hk0 hr,Am]
     simp only [ahThen,if_neg hil,if_neg hnl]
 lt:=by
  intro st i k h1 h2 h3 h4 hr hah
  simp only [Hand.andThen] at h2 h4 hr
  simp only [ahThen] at hah
  by_cases hil:i<st+H.cnt
  ·by_cases hkl:k<st+H.cnt
   ·simp only [if_pos hil,if_pos hkl] at hah hr
    exact F.lt st i k h1 hil h3 hkl hr hah
   ·omega
  ·by_cases hkl:k<st+H.cnt
   ·simp only [if_neg hil,if_pos hkl] at hah;cases hah
   ·simp only [if_neg hil,if_neg hkl] at hah hr
    exact G.lt (st+H.cnt) i k (by omega) (by omega) (by omega) (by omega) hr hah
 addM:=by
  intro nm x st
  simp only [Hand.andThen,Bool.or_eq_true,F.addM,G.addM]
  constructor
  ·rintro (⟨i,h1,h2,h3,h4⟩ | ⟨i,h1,h2,h3,h4⟩)
   ·exact ⟨i,h1,by omega,by simp only [if_pos h2];exact h3,h4⟩
   ·exact ⟨i,by omega,by omega,by simp only [if_neg (show ¬i<st+H.cnt by omega)];exact h3,h4⟩
  ·rintro ⟨i,h1,h2,h3,h4⟩
   by_cases hil:i<st+H.cnt
   ·simp only [if_pos hil] at h3;exact Or.inl ⟨i,h1,hil,h3,h4⟩
   ·simp only [if_neg hil] at h3;exact Or.inr ⟨i,by omega,by omega,h3,h4⟩
 svM:=by
  intro nm x r st k h1 h2 hr
  simp only [Hand.andThen] at h2 hr ⊢
  by_cases hkl:k<st+H.cnt
  ·simp only [if_pos hkl] at hr ⊢
   rw [F.svM nm x r st k h1 hkl hr]
   constructor
   ·rintro (h|⟨i,a1,a2,a3,a4,a5⟩)
    ·exact Or.inl h
    ·exact Or.inr ⟨i,a1,by omega,by simp only [if_pos a2];exact a3,a4,by simp only [ahThen,if_pos a2,if_pos hkl];exact a5⟩
   ·rintro (h|⟨i,a1,a2,a3,a4,a5⟩)
    ·exact Or.inl h
    ·by_cases hil:i<st+H.cnt
     ·simp only [ahThen,if_pos hil,if_pos hkl] at a3 a5
      exact Or.inr ⟨i,a1,hil,a3,a4,a5⟩
     ·simp only [ahThen,if_neg hil,if_pos hkl] at a5;cases a5
  ·simp only [if_neg hkl] at hr ⊢
   rw [G.svM nm x _ (st+H.cnt) k (by omega) (by omega) hr,Bool.or_eq_true,F.addM]
   constructor
   ·rintro ((h|⟨i,a1,a2,a3,a4⟩)|⟨i,a1,a2,a3,a4,a5⟩)
    ·exact Or.inl h
    ·exact Or.inr ⟨i,a1,by omega,by simp only [if_pos a2];exact a3,a4,by simp only [ahThen,if_pos a2,if_neg hkl]⟩
    ·have hil:¬i<st+H.cnt:=by omega
     exact Or.inr ⟨i,by omega,by omega,by simp only [if_neg hil];exact a3,a4,by simp only [ahThen,if_neg hil,if_neg hkl];exact a5⟩
   ·rintro (h|⟨i,a1,a2,a3,a4,a5⟩)
    ·exact Or.inl (Or.inl h)
    ·by_cases hil:i<st+H.cnt
     ·simp only [if_pos hil] at a3
      exact Or.inl (Or.inr ⟨i,a1,hil,a3,a4⟩)
     ·simp only [if_neg hil] at a3
      simp only [ahThen,if_neg hil,if_neg hkl] at a5
      exact Or.inr ⟨i,by omega,by omega,a3,a4,a5⟩
theorem Fwd.orElse (F:Fwd P H a) (G:Fwd Q K b):Fwd (P.orElse Q) (H.orElse K) (ahOr H.cnt a b) where
 both:=F.both.orElse G.both
 psA:=by intro st;simp [Part.orElse,psOr,F.psA,G.psA]
 rcA:=by
  intro st k h1 h2
  simp only [Hand.orElse] at h2
  simp only [Part.orElse,rcOr,F.both.cnt]
  by_cases h:k<st+H.cnt
  ·simp only [if_pos h];exact F.rcA st k h1 h
  ·simp only [if_neg h];exact G.rcA (st+H.cnt) k (by omega) (by omega)
 up:=by
  intro fr to pt st S i h1 h2 hS hi
  simp only [Hand.orElse] at h2
  simp only [Part.orElse,plOr,F.both.cnt] at hS hi ⊢
  obtain ⟨hA,hB⟩:=Shuts.append.1 hS
  by_cases hil:i<st+H.cnt
  ·obtain ⟨u1,u2⟩:=F.up fr to pt st S i h1 hil hA (fun e he hk=>hi e (List.mem_append_left _ he) hk)
   refine ⟨u1,?_⟩
   intro e he h0 hr hah
   rcases List.mem_append.1 he with he|he
   ·have hl:=F.both.ok.lo he h0
    rw [F.both.cnt] at hl
    simp only [Hand.orElse,if_pos hl.2] at hr
    simp only [ahOr,if_pos hil,if_pos hl.2] at hah
    exact u2 e he h0 hr hah
   ·have hl:=G.both.ok.lo he h0
    have hnl:¬e.st.toNat<st+H.cnt:=by omega
    simp only [ahOr,if_pos hil,if_neg hnl] at hah
    cases hah
  ·obtain ⟨u1,u2⟩:=G.up fr to _ (st+H.cnt) S i (by omega) (by omega) hB (fun e he hk=>hi e (List.mem_append_right _ he) hk)
   refine ⟨u1,?_⟩
   intro e he h0 hr hah
   rcases List.mem_append.1 he with he|he
   ·have hl:=F.both.ok.lo he h0
    rw [F.both.cnt] at hl
    simp only [ahOr,if_neg hil,if_pos hl.2] at hah
    cases hah
   ·have hl:=G.both.ok.lo he h0
    have hnl:¬e.st.toNat<st+H.cnt:=by omega
    simp only [Hand.orElse,if_neg hnl] at hr
    simp only [ahOr,if_neg hil,if_neg hnl] at hah
    exact u2 e he h0 hr hah
 down:=by
  intro fr to pt st S0 i h1 h2 hf ht h0
  simp only [Hand.orElse] at h2
  have g1:=F.both.ok.grow fr to pt st
  by_cases hil:i<st+H.cnt
  ·obtain ⟨A,k1,k2,k3,k4⟩:=F.down fr to pt st S0 i h1 hil hf ht h0
   obtain ⟨B,m1,m2,m3⟩:=G.both.ok.down allOk fr to (P.pl fr to pt st).2 (st+H.cnt) A (by omega) (by omega) (fun _ _=>(k1 to ht).2 h0)
   refine ⟨B,?_,?_,?_,?_⟩
   ·intro x hx;rw [m1 x (by omega),k1 x hx]
   ·simp only [Part.orElse,plOr,F.both.cnt]
    refine Shuts.append.2 ⟨?_,m2⟩
    intro e he hok hs
    obtain ⟨q1,q2⟩:=F.both.ok.points fr to pt st hf ht e he
    rw [m1 _ q2];rw [m1 _ q1] at hs
    exact k2 e he hok hs
   ·intro e he hk
    simp only [Part.orElse,plOr,F.both.cnt] at he
    rcases List.mem_append.1 he with he|he
    ·obtain ⟨q1,q2⟩:=F.both.ok.points fr to pt st hf ht e he
     rw [m1 _ q2];exact k3 e he hk
    ·have hl:=G.both.ok.lo he (by omega)
     omega
   ·intro e he hk0 hr
    simp only [Part.orElse,plOr,F.both.cnt] at he
    rcases List.mem_append.1 he with he|he
    ·have hl:=F.both.ok.lo he hk0
     rw [F.both.cnt] at hl
     obtain ⟨q1,q2⟩:=F.both.ok.points fr to pt st hf ht e he
     simp only [Hand.orElse,if_pos hl.2] at hr
     rw [m1 _ q1,k4 e he hk0 hr]
     simp only [ahOr,if_pos hil,if_pos hl.2]
    ·have hl:=G.both.ok.lo he hk0
     rw [G.both.cnt] at hl
     have hnl:¬e.st.toNat<st+H.cnt:=by omega
     rw [m3 e he hk0,G.rcA _ _ hl.1 hl.2,k1 fr hf]
     simp only [ahOr,if_pos hil,if_neg hnl]
     simp
  ·obtain ⟨A,k1,k2,k3⟩:=F.both.ok.down allOk fr to pt st S0 hf ht (fun _ _=>h0)
   obtain ⟨B,m1,m2,m3,m4⟩:=G.down fr to (P.pl fr to pt st).2 (st+H.cnt) A i (by omega) (by omega) (by omega) (by omega) ((k1 to ht).2 h0)
   refine ⟨B,?_,?_,?_,?_⟩
   ·intro x hx;rw [m1 x (by omega),k1 x hx]
   ·simp only [Part.orElse,plOr,F.both.cnt]
    refine Shuts.append.2 ⟨?_,m2⟩
    intro e he hok hs
    obtain ⟨q1,q2⟩:=F.both.ok.points fr to pt st hf ht e he
    rw [m1 _ q2];rw [m1 _ q1] at hs
    exact k2 e he hok hs
   ·intro e he hk
    simp only [Part.orElse,plOr,F.both.cnt] at he
    rcases List.mem_append.1 he with he|he
    ·have hl:=F.both.ok.lo he (by omega)
     rw [F.both.cnt] at hl
     omega
    ·exact m3 e he hk
   ·intro e he hk0 hr
    simp only [Part.orElse,plOr,F.both.cnt] at he
    rcases List.mem_append.1 he with he|he
    ·have hl:=F.both.ok.lo he hk0
     rw [F.both.cnt] at hl
     obtain ⟨q1,q2⟩:=F.both.ok.points fr to pt st hf ht e he
     rw [m1 _ q1,k3 e he hk0,F.rcA _ _ hl.1 hl.2]
     simp only [ahOr,if_neg hil,if_pos hl.2]
     simp
    ·have hl:=G.both.ok.lo he hk0
     have hnl:¬e.st.toNat<st+H.cnt:=by omega
     simp only [Hand.orElse,if_neg hnl] at hr
     rw [m4 e he hk0 hr,k1 fr hf]
     simp only [ahOr,if_neg hil,if_neg hnl]
 lt:=by
  intro st i k h1 h2 h3 h4 hr hah
  simp only [Hand.orElse] at h2 h4 hr
  simp only [ahOr] at hah
  by_cases hil:i<st+H.cnt
  ·by_cases hkl:k<st+H.cnt
   ·simp only [if_pos hil,if_pos hkl] at hah hr
    exact F.lt st i k h1 hil h3 hkl hr hah
   ·omega
  ·by_cases hkl:k<st+H.cnt
   ·simp only [if_neg hil,if_pos hkl] at hah;cases hah
   ·simp only [if_neg hil,if_neg hkl] at hah hr
    exact G.lt (st+H.cnt) i k (by omega) (by omega) (by omega) (by omega) hr hah
 addM:=by
  intro nm x st
  simp only [Hand.orElse,Bool.or_eq_true,F.addM,G.addM]
  constructor
  ·rintro (⟨i,h1,h2,h3,h4⟩ | ⟨i,h1,h2,h3,h4⟩)
   ·exact ⟨i,h1,by omega,by simp only [if_pos h2];exact h3,h4⟩
   ·exact ⟨i,by omega,by omega,by simp only [if_neg (show ¬i<st+H.cnt by omega)];exact h3,h4⟩
  ·rintro ⟨i,h1,h2,h3,h4⟩
   by_cases hil:i<st+H.cnt
   ·simp only [if_pos hil] at h3;exact Or.inl ⟨i,h1,hil,h3,h4⟩
   ·simp only [if_neg hil] at h3;exact Or.inr ⟨i,by omega,by omega,h3,h4⟩
 svM:=by
  intro nm x r st k h1 h2 hr
  simp only [Hand.orElse] at h2 hr ⊢
  by_cases hkl:k<st+H.cnt
  ·simp only [if_pos hkl] at hr ⊢
   rw [F.svM nm x r st k h1 hkl hr]
   constructor
   ·rintro (h|⟨i,a1,a2,a3,a4,a5⟩)
    ·exact Or.inl h
    ·exact Or.inr ⟨i,a1,by omega,by simp only [if_pos a2];exact a3,a4,by simp only [ahOr,if_pos a2,if_pos hkl];exact a5⟩
   ·rintro (h|⟨i,a1,a2,a3,a4,a5⟩)
    ·exact Or.inl h
    ·by_cases hil:i<st+H.cnt
     ·simp only [ahOr,if_pos hil,if_pos hkl] at a3 a5
      exact Or.inr ⟨i,a1,hil,a3,a4,a5⟩
     ·simp only [ahOr,if_neg hil,if_pos hkl] at a5;cases a5
  ·simp only [if_neg hkl] at hr ⊢
   rw [G.svM nm x _ (st+H.cnt) k (by omega) (by omega) hr]
   constructor
   ·rintro (h|⟨i,a1,a2,a3,a4,a5⟩)
    ·exact Or.inl h
    ·have hil:¬i<st+H.cnt:=by omega
     exact Or.inr ⟨i,by omega,by omega,by simp only [if_neg hil];exact a3,a4,by simp only [ahOr,if_neg hil,if_neg hkl];exact a5⟩
   ·rintro (h|⟨i,a1,a2,a3,a4,a5⟩)
    ·exact Or.inl h
    ·by_cases hil:i<st+H.cnt
     ·simp only [ahOr,if_pos hil,if_neg hkl] at a5;cases a5
     ·simp only [if_neg hil] at a3
      simp only [ahOr,if_neg hil,if_neg hkl] at a5
      exact Or.inr ⟨i,by omega,by omega,a3,a4,a5⟩
end
structure Tri where
 P:Part
 H:Hand
 ah:Ah
def Tri.Ok (T:Tri):Prop:=Fwd T.P T.H T.ah
def Tri.one:Tri:=⟨Part.one,Hand.one,ahOne⟩
def Tri.round (lo hi:Int) (T:Tri):Tri:=⟨T.P.round lo hi,T.H.round,ahRound⟩
def Tri.andThen (T U:Tri):Tri:=⟨T.P.andThen U.P,T.H.andThen U.H,ahThen T.H.cnt T.ah U.ah⟩
def Tri.orElse (T U:Tri):Tri:=⟨T.P.orElse U.P,T.H.orElse U.H,ahOr T.H.cnt T.ah U.ah⟩
section
variable {α:Type} (f:α→Tri)
def repT (x:α×Rep):Tri :=
 match x.2 with
 | none=>f x.1
 | some (lo,hi)=>(f x.1).round lo hi
def seqT:α×Rep→List (α×Rep)→Tri
 | x,[]=>repT f x
 | x,y::ys=>(repT f x).andThen (seqT y ys)
def altT:SeqOf α→List (SeqOf α)→Tri
 | s,[]=>seqT f s.1 s.2
 | s,t::ts=>(seqT f s.1 s.2).orElse (altT t ts)
variable {f}
end
def atomT:(n:Nat)→Atom n→Tri
 | 0,_=>Tri.one
 | _+1,.inl _=>Tri.one
 | n+1,.inr t=>altT (atomT n) t.1 t.2
end
section
structure Rules where
 nm:Nat→Int
 kd:Nat→Int
 tr:Nat→List (Int×Int)
def firstOf (nm:Nat→Int) (x:Int):Nat→Nat
 | 0=>0
 | k+1=>if firstOf nm x k<k then firstOf nm x k else if nm k=x then k else k+1
theorem firstOf_spec (nm:Nat→Int) (x:Int):∀k,(firstOf nm x k<k→nm (firstOf nm x k)=x∧∀i,i<firstOf nm x k→¬nm i=x)∧(¬firstOf nm x k<k→firstOf nm x k=k∧∀i,i<k→¬nm i=x):=by
 intro k
 induction k with
 | zero=>exact ⟨fun h=>absurd h (by omega),fun _=>⟨rfl,fun i h=>absurd h (by omega)⟩⟩
 | succ k ih =>
  simp only [firstOf]
  by_cases h:firstOf nm x k<k
  ·simp only [if_pos h]
   exact ⟨fun _=>ih.1 h,fun h'=>absurd (by omega:firstOf nm x k<k+1) h'⟩
  ·obtain ⟨h1,h2⟩:=ih.2 h
   simp only [if_neg h]
   by_cases hk:nm k=x
   ·simp only [if_pos hk]
    exact ⟨fun _=>⟨hk,h2⟩,fun h'=>absurd (Nat.lt_succ_self k) h'⟩
   ·simp only [if_neg hk]
    refine ⟨fun h'=>absurd h' (Nat.lt_irrefl _),fun _=>⟨by trivial,?_⟩⟩
    intro i hi
    by_cases e:i=k
    ·subst e;exact hk
    ·exact h2 i (by omega)
section
variable (R:Rules) (hk:Int→Prop) (hf hg:Int→Int→Prop) (T:Tri) (n:Nat)
def rightS (k:Nat):Prop :=
 hk (R.kd k) ∧
 (R.nm k = -1∨(T.H.ir false 0 k=false∧T.H.svM R.nm (R.nm k) false 0 k=false∧(firstOf R.nm (R.nm k) k<k→R.kd (firstOf R.nm (R.nm k) k)=R.kd k))) ∧
 ∀t∈R.tr k,t.1=0∨(t.1=1∧hf (R.kd k) t.2) ∨
  (2≤t.1∧T.H.svS R.nm (t.1 - 2) false 0 k=true∧firstOf R.nm (t.1 - 2) k<k∧hf (R.kd (firstOf R.nm (t.1 - 2) k)) t.2)
end
theorem firstOf_le (nm:Nat→Int) (x:Int) (k:Nat):firstOf nm x k≤k:=by
 by_cases h:firstOf nm x k<k
 ·omega
 ·have:=((firstOf_spec nm x k).2 h).1;omega
end
end Go.Proofs.YtcboiapggnmpfaaGreat
