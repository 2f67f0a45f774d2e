import Derived.Test.YtcboiapggnmpfaaGreatDoorQbo
namespace Go.Proofs.YtcboiapggnmpfaaGreatDoor
set_option linter.unusedSimpArgs false
set_option linter.unusedVariables false
open Go.RowKit
deriving instance DecidableEq for Tm
deriving instance DecidableEq for Tst
def soE (e:Evt) (x:Tst):Bool:=soS ⟨0,e⟩ (newT 0 ⟨0,e⟩) 0 x
theorem val_plain {hand:Nmb} {t:Thr} {an:Nat} {x:Tm} (h:tmE x=true):valS hand t an x=valS ⟨0,hand.e⟩ (newT 0 ⟨0,hand.e⟩) 0 x:=by
 simp only [tmE,Bool.or_eq_true,decide_eq_true_eq] at h
 unfold valS
 rcases h with h|h <;> simp [h]
theorem so_plain {hand:Nmb} {t:Thr} {an:Nat} {x:Tst} (h1:tmE x.left=true) (h2:tmE x.right=true) (h3:tmE x.more=true):soS hand t an x=soE hand.e x:=by
 unfold soE soS rsideS
 rw [val_plain (hand:=hand) (t:=t) (an:=an) h1,val_plain (hand:=hand) (t:=t) (an:=an) h2,val_plain (hand:=hand) (t:=t) (an:=an) h3]
def nxP (tv:Tst→Bool) (x:In) (a:Int):List Int :=
 if x.op=2 then (if tv x.test=true then [a+1] else []) else if x.op=4 then [x.a] else if x.op=5 then [x.a,x.b] else []
inductive Cl (code:List In) (tv:Tst→Bool) (p:Int):Int→Prop
 | zero:Cl code tv p (p+1)
 | next {a:Int} {x:In} {b:Int}:Cl code tv p a→code[a.toNat]? = some x→b∈nxP tv x a→Cl code tv p b
theorem nxS_plain {code:List In} (hP:plainB code=true) {hand:Nmb} {t:Thr} {a:Int} {x:In} (hx:code[a.toNat]? = some x) (b:Int) (bn:Nat):(b,bn)∈nxS hand t x a 0↔bn=0∧b∈nxP (soE hand.e) x a:=by
 have e:=plain_op hP hx
 unfold nxS nxP
 rcases e with e|e|e|e|⟨e,e1,e2,e3⟩
 ·simp [e]
 ·simp [e];exact And.comm
 ·simp [e];constructor
  ·rintro (⟨rfl,rfl⟩ | ⟨rfl,rfl⟩)
   ·exact ⟨rfl,Or.inl rfl⟩
   ·exact ⟨rfl,Or.inr rfl⟩
  ·rintro ⟨rfl,rfl|rfl⟩
   ·exact Or.inl ⟨rfl,rfl⟩
   ·exact Or.inr ⟨rfl,rfl⟩
 ·simp [e]
 ·rw [so_plain e1 e2 e3]
  simp only [e]
  by_cases h:soE hand.e x.test=true
  ·simp [h];exact And.comm
  ·simp [h]
theorem rc_plain {code:List In} (hP:plainB code=true) {hand:Nmb} {t:Thr} {a:Int} {an:Nat}:RcT code hand t a an↔an=0∧Cl code (soE hand.e) t.at' a:=by
 constructor
 ·intro h
  induction h with
  | zero=>exact ⟨rfl,.zero⟩
  | next h1 h2 h3 ih =>
   obtain ⟨rfl,ih⟩:=ih
   have:=(nxS_plain hP h2 _ _).1 h3
   exact ⟨this.1,.next ih h2 this.2⟩
 ·rintro ⟨rfl,h⟩
  induction h with
  | zero=>exact .zero
  | next h1 h2 h3 ih=>exact .next ih h2 ((nxS_plain hP h2 _ _).2 ⟨rfl,h3⟩)
def Nx (code:List In) (e:Evt) (S:Int→Prop) (a:Int):Prop:=∃p x,S p∧code[p.toNat]? = some x∧(x.a=4∨x.a=e.kind)∧Cl code (soE e) p a∧∃y,code[a.toNat]? = some y∧y.op=0
def Ac (code:List In) (e:Evt) (S:Int→Prop):Prop:=∃p x,S p∧code[p.toNat]? = some x∧(x.a=4∨x.a=e.kind)∧∃a y,Cl code (soE e) p a∧code[a.toNat]? = some y∧y.op=6
def PlT (code:List In) (bs:List Nat) (L:List Evt) (f:Nat):Nat→Int→Prop
 | 0,_=>False
 | i+1,a=>∃e,L[i]? = some e∧Nx code e (fun p=>(i=f∧∃b∈bs,p=(b:Int))∨PlT code bs L f i p) a
def Bg (code:List In) (bs:List Nat) (L:List Evt) (f i:Nat) (p:Int):Prop:=(i=f∧∃b∈bs,p=(b:Int))∨PlT code bs L f i p
def thrB (a f b:Int):Thr:=⟨a,f,b,nmb0,nmb0,nmb0,nmb0⟩
theorem thrB_bare (a f b:Int):Bare (thrB a f b):=⟨rfl,rfl,rfl,rfl⟩
def On (code:List In) (bs:List Nat) (L:List Evt) (i:Nat) (e:Evt) (t:Thr):Prop:=Wt code bs L i t∨∃b∈bs,t=newT (b:Int) ⟨i,e⟩
theorem on_of {code:List In} {bs:List Nat} {L:List Evt} {i:Nat} {e:Evt} (he:L[i]? = some e) (ih:∀u,Wt code bs L i u↔∃(f:Nat) (ef:Evt) (a:Int),L[f]? = some ef∧PlT code bs L f i a∧u=thrB a f ef.at') (t:Thr) :
  On code bs L i e t↔∃(f:Nat) (ef:Evt) (p:Int),L[f]? = some ef∧Bg code bs L f i p∧t=thrB p f ef.at':=by
 unfold On
 rw [ih]
 constructor
 ·rintro (⟨f,ef,a,h1,h2,h3⟩ | ⟨b,hb,h3⟩)
  ·exact ⟨f,ef,a,h1,Or.inr h2,h3⟩
  ·exact ⟨i,e,b,he,Or.inl ⟨rfl,b,hb,rfl⟩,h3⟩
 ·rintro ⟨f,ef,p,h1,⟨rfl,b,hb,rfl⟩ | h2,h3⟩
  ·rw [he] at h1
   cases h1
   exact Or.inr ⟨b,hb,h3⟩
  ·exact Or.inl ⟨f,ef,p,h1,h2,h3⟩
theorem wt_plain {code:List In} (hP:plainB code=true) {bs:List Nat} {L:List Evt}:∀(i:Nat) (u:Thr),Wt code bs L i u↔∃(f:Nat) (ef:Evt) (a:Int),L[f]? = some ef∧PlT code bs L f i a∧u=thrB a f ef.at':=by
 intro i
 induction i with
 | zero =>
  intro u
  simp [Wt,PlT]
 | succ i ih =>
  intro u
  constructor
  ·rintro ⟨e,t,he,ht,x,hx,hk,a,an,y,hr,hy,ho,rfl⟩
   obtain ⟨f,ef,p,h1,h2,rfl⟩:=(on_of he ih t).1 ht
   obtain ⟨rfl,hc⟩:=(rc_plain hP).1 hr
   refine ⟨f,ef,a,h1,⟨e,he,p,x,h2,hx,hk,hc,y,hy,ho⟩,?_⟩
   rw [thread_bare (thrB_bare _ _ _)];rfl
  ·rintro ⟨f,ef,a,h1,⟨e,he,p,x,h2,hx,hk,hc,y,hy,ho⟩,rfl⟩
   refine ⟨e,thrB p f ef.at',he,(on_of he ih _).2 ⟨f,ef,p,h1,h2,rfl⟩,x,hx,hk,a,0,y,(rc_plain hP).2 ⟨rfl,hc⟩,hy,ho,?_⟩
   rw [thread_bare (thrB_bare _ _ _)];rfl
theorem et_plain {code:List In} (hP:plainB code=true) {bs:List Nat} {L:List Evt} {i:Nat} {e:Evt} (he:L[i]? = some e) (u:Thr):Et code bs L i u↔∃(f:Nat) (ef:Evt),L[f]? = some ef∧Ac code e (Bg code bs L f i)∧u=thrB 0 f ef.at':=by
 constructor
 ·rintro ⟨e',t,he',ht,x,hx,hk,a,an,y,hr,hy,ho,rfl⟩
  rw [he] at he'
  cases he'
  obtain ⟨f,ef,p,h1,h2,rfl⟩:=(on_of he (wt_plain hP i) t).1 ht
  obtain ⟨rfl,hc⟩:=(rc_plain hP).1 hr
  refine ⟨f,ef,h1,⟨p,x,h2,hx,hk,a,y,hc,hy,ho⟩,?_⟩
  rw [thread_bare (thrB_bare _ _ _)];rfl
 ·rintro ⟨f,ef,h1,⟨p,x,h2,hx,hk,a,y,hc,hy,ho⟩,rfl⟩
  refine ⟨e,thrB p f ef.at',he,(on_of he (wt_plain hP i) _).2 ⟨f,ef,p,h1,h2,rfl⟩,x,hx,hk,a,0,y,(rc_plain hP).2 ⟨rfl,hc⟩,hy,ho,?_⟩
  rw [thread_bare (thrB_bare _ _ _)];rfl
theorem pl_none {code:List In} {bs:List Nat} {L:List Evt} {f:Nat}:∀(i:Nat),i≤f→∀a,¬PlT code bs L f i a:=by
 intro i
 induction i with
 | zero=>intro _ a h;exact h
 | succ i ih =>
  rintro hi a ⟨e,he,p,x,h1,_⟩
  rcases h1 with ⟨rfl,_⟩ | h1
  ·omega
  ·exact ih (by omega) p h1
def nxN (tv:Tst→Bool) (x:In) (a:Nat):List Nat :=
 if x.op=2 then (if tv x.test=true then [a+1] else []) else if x.op=4 then [x.a.toNat] else if x.op=5 then [x.a.toNat,x.b.toNat] else []
def cloN (code:List In) (tv:Tst→Bool):Nat→List Nat→Nat→Nat
 | 0,_,m=>m
 | _+1,[],m=>m
 | f+1,a::st,m=>if m.testBit a=true then cloN code tv f st m else match code[a]? with
  | none=>cloN code tv f st m
  | some x=>cloN code tv f (nxN tv x a++st) (m ||| 2 ^ a)
def shutN (tv:Tst→Bool) (m:Nat):List In→Nat→Bool
 | [],_=>true
 | x::r,i=>(!m.testBit i||(nxN tv x i).all fun b=>m.testBit b)&&shutN tv m r (i+1)
def opM (k:Int):List In→Nat
 | []=>0
 | x::r=>(if x.op=k then 1 else 0)+2*opM k r
theorem opM_bit (k:Int):∀(code:List In) (a:Nat),(opM k code).testBit a=true↔∃x,code[a]? = some x∧x.op=k:=by
 intro code
 induction code with
 | nil=>intro a;simp [opM]
 | cons x r ih =>
  intro a
  cases a with
  | zero =>
   simp only [opM,Nat.testBit_zero,List.getElem?_cons_zero,Option.some.injEq,exists_eq_left',decide_eq_true_eq]
   split
   ·constructor
    ·intro _;assumption
    ·intro _;omega
   ·rename_i h
    constructor
    ·intro h2;omega
    ·intro h2;exact absurd h2 h
  | succ a =>
   rw [Nat.testBit_succ]
   have:opM k (x::r) / 2=opM k r:=by
    simp only [opM]
    split <;> omega
   rw [this,ih]
   simp
theorem cloN_ok {code:List In} (hI:Inb code) {tv:Tst→Bool} {p:Nat}:∀(f:Nat) (st:List Nat) (m:Nat),(∀a∈st,Cl code tv p a)→(∀a:Nat,m.testBit a=true→Cl code tv p a)→∀a:Nat,(cloN code tv f st m).testBit a=true→Cl code tv p a:=by
 intro f
 induction f with
 | zero=>intro st m _ h;exact h
 | succ f ih =>
  intro st m hst h
  cases st with
  | nil=>exact h
  | cons b st =>
   unfold cloN
   have hst2:∀a∈st,Cl code tv p a:=fun a ha=>hst a (List.mem_cons_of_mem _ ha)
   split
   ·exact ih st m hst2 h
   split
   ·exact ih st m hst2 h
   ·rename_i x hx
    have hb:=hst b List.mem_cons_self
    refine ih _ _ ?_ ?_
    ·intro a ha
     rcases List.mem_append.1 ha with ha|ha
     ·refine .next (a:=(b:Int)) hb (by simpa using hx) ?_
      obtain ⟨i1,i2,i3⟩:=hI b x hx
      unfold nxN at ha
      unfold nxP
      split at ha
      ·rename_i ho
       rw [if_pos ho]
       split at ha
       ·rename_i ht
        rw [if_pos ht]
        simp at ha;subst ha;simp
       ·simp at ha
      rename_i ho
      rw [if_neg ho]
      split at ha
      ·rename_i ho4
       rw [if_pos ho4]
       have:=i2 (Or.inl ho4)
       simp at ha;subst ha;simp;omega
      rename_i ho4
      rw [if_neg ho4]
      split at ha
      ·rename_i ho5
       rw [if_pos ho5]
       have:=i2 (Or.inr ho5)
       have:=i3 ho5
       simp at ha
       rcases ha with rfl|rfl
       ·simp;omega
       ·simp;omega
      ·simp at ha
     ·exact hst2 a ha
    ·intro a ha
     rw [Nat.testBit_or,Bool.or_eq_true] at ha
     rcases ha with ha|ha
     ·exact h a ha
     ·rw [Nat.testBit_two_pow] at ha
      simp at ha
      subst ha
      exact hb
theorem shutN_at {tv:Tst→Bool} {m:Nat}:∀(r:List In) (i:Nat),shutN tv m r i=true→∀(k:Nat) x,r[k]? = some x→m.testBit (i+k)=true→∀b∈nxN tv x (i+k),m.testBit b=true:=by
 intro r
 induction r with
 | nil=>intro i _ k x hx;simp at hx
 | cons y r ih =>
  intro i h k x hx hm b hb
  simp only [shutN,Bool.and_eq_true,Bool.or_eq_true,Bool.not_eq_true',List.all_eq_true] at h
  cases k with
  | zero =>
   simp at hx
   subst hx
   rcases h.1 with h1|h1
   ·rw [Nat.add_zero] at hm;rw [hm] at h1;cases h1
   ·exact h1 b (by simpa using hb)
  | succ k =>
   have e:i+(k+1)=i+1+k:=by omega
   rw [e] at hm hb
   exact ih (i+1) h.2 k x (by simpa using hx) hm b hb
theorem clo_all {code:List In} (hI:Inb code) {tv:Tst→Bool} {p m:Nat} (hp:m.testBit (p+1)=true) (hs:shutN tv m code 0=true):∀a,Cl code tv p a→0≤a∧m.testBit a.toNat=true:=by
 intro a h
 induction h with
 | zero=>exact ⟨by omega,by rw [show ((p:Int)+1).toNat=p+1 by omega];exact hp⟩
 | next h1 h2 h3 ih =>
  rename_i a x b
  obtain ⟨i1,i2,i3⟩:=hI _ x h2
  have hs2:=shutN_at code 0 hs a.toNat x h2 (by simpa using ih.2)
  rw [Nat.zero_add] at hs2
  unfold nxP at h3
  unfold nxN at hs2
  split at h3
  ·rename_i ho
   rw [if_pos ho] at hs2
   split at h3
   ·rename_i ht
    rw [if_pos ht] at hs2
    simp at h3
    subst h3
    refine ⟨by omega,?_⟩
    have:=hs2 (a.toNat+1) (by simp)
    rw [show (a+1).toNat=a.toNat+1 by omega];exact this
   ·simp at h3
  rename_i ho
  rw [if_neg ho] at hs2
  split at h3
  ·rename_i ho4
   rw [if_pos ho4] at hs2
   simp at h3
   subst h3
   exact ⟨(i2 (Or.inl ho4)).1,hs2 _ (by simp)⟩
  rename_i ho4
  rw [if_neg ho4] at hs2
  split at h3
  ·rename_i ho5
   rw [if_pos ho5] at hs2
   simp at h3
   rcases h3 with rfl|rfl
   ·exact ⟨(i2 (Or.inr ho5)).1,hs2 _ (by simp)⟩
   ·exact ⟨(i3 ho5).1,hs2 _ (by simp)⟩
  ·simp at h3
abbrev Tab:=List (Nat×Nat×Bool)
def tabGo (code:List In) (tv:Tst→Bool) (k:Int) (tm em:Nat):List In→Nat→Tab
 | [],_=>[]
 | x::r,p=>if x.op=0∧(x.a=4∨x.a=k) then (p,cloN code tv (3*code.length) [p+1] 0 &&& tm,cloN code tv (3*code.length) [p+1] 0 &&& em != 0)::tabGo code tv k tm em r (p+1) else tabGo code tv k tm em r (p+1)
def tabOf (code:List In) (tv:Tst→Bool) (k:Int):Tab:=tabGo code tv k (opM 0 code) (opM 6 code) code 0
def tabOkG (code:List In) (tv:Tst→Bool):List In→Nat→Bool
 | [],_=>true
 | x::r,p=>(!decide (x.op=0)||((cloN code tv (3*code.length) [p+1] 0).testBit (p+1)&&shutN tv (cloN code tv (3*code.length) [p+1] 0) code 0))&&tabOkG code tv r (p+1)
def tabOkB (code:List In) (tv:Tst→Bool):Bool:=tabOkG code tv code 0
theorem tabOk_at {code:List In} {tv:Tst→Bool}:∀(r:List In) (p:Nat),tabOkG code tv r p=true→∀(k:Nat) x,r[k]? = some x→x.op=0→(cloN code tv (3*code.length) [p+k+1] 0).testBit (p+k+1)=true∧shutN tv (cloN code tv (3*code.length) [p+k+1] 0) code 0=true:=by
 intro r
 induction r with
 | nil=>intro p _ k x hx;simp at hx
 | cons y r ih =>
  intro p h k x hx h0
  simp only [tabOkG,Bool.and_eq_true,Bool.or_eq_true,Bool.not_eq_true',decide_eq_false_iff_not] at h
  cases k with
  | zero =>
   simp at hx
   subst hx
   rcases h.1 with h1|h1
   ·exact absurd h0 h1
   ·exact h1
  | succ k =>
   have:=ih (p+1) h.2 k x (by simpa using hx) h0
   rw [show p+(k+1)+1=p+1+k+1 by omega]
   exact this
structure TabIs (code:List In) (tv:Tst→Bool) (k:Int) (tab:Tab):Prop where
 s:∀q∈tab,∃x,code[q.1]? = some x∧x.op=0∧(x.a=4∨x.a=k)∧(∀a:Nat,q.2.1.testBit a=true↔Cl code tv q.1 a∧∃y,code[a]? = some y∧y.op=0)∧(q.2.2=true↔∃(a:Nat) (y:In),Cl code tv q.1 a∧code[a]? = some y∧y.op=6)
 c:∀(p:Nat) x,code[p]? = some x→x.op=0→(x.a=4∨x.a=k)→∃q∈tab,q.1=p
theorem tabGo_mem {code:List In} {tv:Tst→Bool} {k:Int} {tm em:Nat}:∀(r:List In) (p:Nat) (q:Nat×Nat×Bool),q∈tabGo code tv k tm em r p↔∃(j:Nat) (x:In),r[j]? = some x∧x.op=0∧(x.a=4∨x.a=k)∧q=(p+j,cloN code tv (3*code.length) [p+j+1] 0 &&& tm,cloN code tv (3*code.length) [p+j+1] 0 &&& em != 0):=by
 intro r
 induction r with
 | nil=>intro p q;simp [tabGo]
 | cons y r ih =>
  intro p q
  have hs:(∃(j:Nat) (x:In),r[j]? = some x∧x.op=0∧(x.a=4∨x.a=k)∧q=(p+1+j,cloN code tv (3*code.length) [p+1+j+1] 0 &&& tm,cloN code tv (3*code.length) [p+1+j+1] 0 &&& em != 0))↔∃(j:Nat) (x:In),0<j∧(y::r)[j]? = some x∧x.op=0∧(x.a=4∨x.a=k)∧q=(p+j,cloN code tv (3*code.length) [p+j+1] 0 &&& tm,cloN code tv (3*code.length) [p+j+1] 0 &&& em != 0):=by
   constructor
   ·rintro ⟨j,x,h1,h2,h3,h4⟩
    refine ⟨j+1,x,by omega,by simpa using h1,h2,h3,?_⟩
    rw [show p+(j+1)=p+1+j by omega];exact h4
   ·rintro ⟨j,x,h0,h1,h2,h3,h4⟩
    obtain ⟨j,rfl⟩:∃i,j=i+1:=⟨j - 1,by omega⟩
    refine ⟨j,x,by simpa using h1,h2,h3,?_⟩
    rw [show p+1+j=p+(j+1) by omega];exact h4
  unfold tabGo
  split
  ·rename_i hc
   rw [List.mem_cons,ih,hs]
   constructor
   ·rintro (h|⟨j,x,_,h⟩)
    ·exact ⟨0,y,rfl,hc.1,hc.2,h⟩
    ·exact ⟨j,x,h⟩
   ·rintro ⟨j,x,h⟩
    by_cases e:j=0
    ·subst e
     exact Or.inl h.2.2.2
    ·exact Or.inr ⟨j,x,by omega,h⟩
  ·rename_i hc
   rw [ih,hs]
   constructor
   ·rintro ⟨j,x,_,h⟩
    exact ⟨j,x,h⟩
   ·rintro ⟨j,x,h⟩
    by_cases e:j=0
    ·subst e
     simp at h
     obtain ⟨rfl,h2,h3,_⟩:=h
     exact absurd ⟨h2,h3⟩ hc
    ·exact ⟨j,x,by omega,h⟩
theorem tabOf_is {code:List In} (hI:Inb code) {tv:Tst→Bool} (hok:tabOkB code tv=true) (k:Int):TabIs code tv k (tabOf code tv k):=by
 refine ⟨?_,?_⟩
 ·intro q hq
  obtain ⟨j,x,hx,h0,hk,rfl⟩:=(tabGo_mem code 0 q).1 hq
  have ho:=tabOk_at code 0 hok j x hx h0
  simp only [Nat.zero_add] at ho ⊢
  have hsnd:∀a:Nat,(cloN code tv (3*code.length) [j+1] 0).testBit a=true→Cl code tv j a:=cloN_ok hI (p:=j) _ _ _ (by
   intro a ha
   simp at ha
   subst ha
   have:=Cl.zero (code:=code) (tv:=tv) (p:=(j:Int))
   simpa using this) (by intro a ha;simp at ha)
  have hcmp:=clo_all hI ho.1 ho.2
  have hiff:∀a:Nat,(cloN code tv (3*code.length) [j+1] 0).testBit a=true↔Cl code tv j a:=fun a=>⟨hsnd a,fun h=>by simpa using (hcmp a h).2⟩
  refine ⟨x,hx,h0,hk,?_,?_⟩
  ·intro a
   rw [Nat.testBit_and,Bool.and_eq_true,hiff,opM_bit]
  ·rw [bne_iff_ne]
   constructor
   ·intro h
    obtain ⟨a,ha⟩:=Nat.exists_testBit_of_ne_zero h
    rw [Nat.testBit_and,Bool.and_eq_true,hiff,opM_bit] at ha
    obtain ⟨h1,y,h2,h3⟩:=ha
    exact ⟨a,y,h1,h2,h3⟩
   ·rintro ⟨a,y,h1,h2,h3⟩ h
    have:(cloN code tv (3*code.length) [j+1] 0 &&& opM 6 code).testBit a=true:=by
     rw [Nat.testBit_and,Bool.and_eq_true,hiff,opM_bit]
     exact ⟨h1,y,h2,h3⟩
    rw [h] at this
    simp at this
 ·intro p x hx h0 hk
  exact ⟨_,(tabGo_mem code 0 _).2 ⟨p,x,hx,h0,hk,rfl⟩,by simp⟩
def mstep (tab:Tab) (S:Nat):Nat×Bool:=tab.foldl (fun r q=>if S.testBit q.1=true then (r.1 ||| q.2.1,r.2||q.2.2) else r) (0,false)
theorem mstep_go (S:Nat):∀(tab:Tab) (r:Nat×Bool),(∀a,(tab.foldl (fun r q=>if S.testBit q.1=true then (r.1 ||| q.2.1,r.2||q.2.2) else r) r).1.testBit a=true↔r.1.testBit a=true∨∃q∈tab,S.testBit q.1=true∧q.2.1.testBit a=true)∧((tab.foldl (fun r q=>if S.testBit q.1=true then (r.1 ||| q.2.1,r.2||q.2.2) else r) r).2=true↔r.2=true∨∃q∈tab,S.testBit q.1=true∧q.2.2=true):=by
 intro tab
 induction tab with
 | nil=>intro r;simp
 | cons q tab ih =>
  intro r
  rw [List.foldl_cons]
  split
  ·rename_i hq
   obtain ⟨i1,i2⟩:=ih (r.1 ||| q.2.1,r.2||q.2.2)
   refine ⟨fun a => ?_,?_⟩
   ·rw [i1]
    simp only [Nat.testBit_or,Bool.or_eq_true,List.mem_cons,exists_eq_or_imp,hq,true_and]
    constructor
    ·rintro ((h|h)|h)
     ·exact Or.inl h
     ·exact Or.inr (Or.inl h)
     ·exact Or.inr (Or.inr h)
    ·rintro (h|h|h)
     ·exact Or.inl (Or.inl h)
     ·exact Or.inl (Or.inr h)
     ·exact Or.inr h
   ·rw [i2]
    simp only [Bool.or_eq_true,List.mem_cons,exists_eq_or_imp,hq,true_and]
    constructor
    ·rintro ((h|h)|h)
     ·exact Or.inl h
     ·exact Or.inr (Or.inl h)
     ·exact Or.inr (Or.inr h)
    ·rintro (h|h|h)
     ·exact Or.inl (Or.inl h)
     ·exact Or.inl (Or.inr h)
     ·exact Or.inr h
  ·rename_i hq
   obtain ⟨i1,i2⟩:=ih r
   refine ⟨fun a => ?_,?_⟩
   ·rw [i1]
    simp [hq]
   ·rw [i2]
    simp [hq]
theorem mstep_is {code:List In} (hI:Inb code) {e:Evt} {tab:Tab} (hT:TabIs code (soE e) e.kind tab) {S:Nat} {P:Int→Prop} (hS:∀p:Nat,S.testBit p=true↔P p) (hP:∀p,P p→0≤p∧∃x,code[p.toNat]? = some x∧x.op=0) :
  (∀a:Nat,(mstep tab S).1.testBit a=true↔Nx code e P a)∧((mstep tab S).2=true↔Ac code e P):=by
 obtain ⟨g1,g2⟩:=mstep_go S tab (0,false)
 refine ⟨fun a => ?_,?_⟩
 ·unfold mstep
  rw [g1]
  constructor
  ·rintro (h|⟨q,hq,h1,h2⟩)
   ·simp at h
   ·obtain ⟨x,hx,h0,hk,hm,_⟩:=hT.s q hq
    obtain ⟨c1,y,c2,c3⟩:=(hm a).1 h2
    exact ⟨q.1,x,(hS _).1 h1,by simpa using hx,hk,c1,y,by simpa using c2,c3⟩
  ·rintro ⟨p,x,hp,hx,hk,hc,y,hy,ho⟩
   obtain ⟨p0,x',hx',h0⟩:=hP p hp
   rw [hx] at hx'
   cases hx'
   obtain ⟨q,hq,e1⟩:=hT.c p.toNat x hx h0 hk
   obtain ⟨_,_,_,_,hm,_⟩:=hT.s q hq
   have ep:((p.toNat:Nat):Int)=p:=Int.toNat_of_nonneg p0
   refine Or.inr ⟨q,hq,?_,?_⟩
   ·rw [e1,hS,ep];exact hp
   ·rw [hm,e1,ep]
    exact ⟨hc,y,by simpa using hy,ho⟩
 ·unfold mstep
  rw [g2]
  constructor
  ·rintro (h|⟨q,hq,h1,h2⟩)
   ·simp at h
   ·obtain ⟨x,hx,h0,hk,_,hm⟩:=hT.s q hq
    obtain ⟨a,y,c1,c2,c3⟩:=hm.1 h2
    exact ⟨q.1,x,(hS _).1 h1,by simpa using hx,hk,a,y,c1,by simpa using c2,c3⟩
  ·rintro ⟨p,x,hp,hx,hk,a,y,hc,hy,ho⟩
   obtain ⟨p0,x',hx',h0⟩:=hP p hp
   rw [hx] at hx'
   cases hx'
   obtain ⟨q,hq,e1⟩:=hT.c p.toNat x hx h0 hk
   obtain ⟨_,_,_,_,_,hm⟩:=hT.s q hq
   have ep:((p.toNat:Nat):Int)=p:=Int.toNat_of_nonneg p0
   have ha:0≤a:=by
    have:∀b,Cl code (soE e) p b→0≤b:=by
     intro b hb
     induction hb with
     | zero=>omega
     | next h1 h2 h3 ih =>
      rename_i a x b
      obtain ⟨i1,i2,i3⟩:=hI _ x h2
      unfold nxP at h3
      split at h3
      ·split at h3
       ·simp at h3;omega
       ·simp at h3
      split at h3
      ·rename_i ho4
       simp at h3;subst h3;exact (i2 (Or.inl ho4)).1
      split at h3
      ·rename_i ho5
       simp at h3
       rcases h3 with rfl|rfl
       ·exact (i2 (Or.inr ho5)).1
       ·exact (i3 ho5).1
      ·simp at h3
    exact this a hc
   refine Or.inr ⟨q,hq,?_,?_⟩
   ·rw [e1,hS,ep];exact hp
   ·rw [hm,e1,ep]
    exact ⟨a.toNat,y,by rw [show ((a.toNat:Nat):Int)=a by omega];exact hc,hy,ho⟩
def tvOf:List (Tst×Bool)→Tst→Bool
 | [],_=>false
 | q::r,x=>if q.1=x then q.2 else tvOf r x
def allV:List Tst→List (List (Tst×Bool))
 | []=>[[]]
 | x::r=>(allV r).flatMap fun v=>[(x,true)::v,(x,false)::v]
theorem allV_mem (g:Tst→Bool):∀Ts:List Tst,(Ts.map fun x=>(x,g x))∈allV Ts:=by
 intro Ts
 induction Ts with
 | nil=>simp [allV]
 | cons x r ih =>
  unfold allV
  refine List.mem_flatMap.2 ⟨_,ih,?_⟩
  cases h:g x <;> simp [h]
theorem tvOf_map (g:Tst→Bool):∀(Ts:List Tst) (x:Tst),x∈Ts→tvOf (Ts.map fun x=>(x,g x)) x=g x:=by
 intro Ts
 induction Ts with
 | nil=>intro x h;simp at h
 | cons y r ih =>
  intro x h
  simp only [List.map_cons,tvOf]
  split
  ·rename_i e;rw [e]
  ·rename_i e
   rcases List.mem_cons.1 h with h|h
   ·exact absurd h.symm e
   ·exact ih x h
def testsB (Ts:List Tst) (code:List In):Bool:=code.all fun x => !decide (x.op=2)||Ts.contains x.test
theorem tests_in {Ts:List Tst} {code:List In} (h:testsB Ts code=true) {k:Nat} {x:In} (hx:code[k]? = some x) (h2:x.op=2):x.test∈Ts:=by
 have:=(List.all_eq_true.1 h) x (List.mem_of_getElem? hx)
 simp only [h2,Bool.or_eq_true,Bool.not_eq_true',decide_eq_false_iff_not,List.contains_iff_mem] at this
 rcases this with h|h
 ·exact absurd trivial h
 ·exact h
theorem cl_congr {code:List In} {tv tv':Tst→Bool} (h:∀(k:Nat) x,code[k]? = some x→x.op=2→tv x.test=tv' x.test) {p a:Int} (hc:Cl code tv p a):Cl code tv' p a:=by
 induction hc with
 | zero=>exact .zero
 | next h1 h2 h3 ih =>
  refine .next ih h2 ?_
  unfold nxP at h3 ⊢
  split at h3
  ·rename_i ho
   rw [if_pos ho,←h _ _ h2 ho];exact h3
  ·rename_i ho
   rw [if_neg ho];exact h3
theorem TabIs.congr {code:List In} {tv tv':Tst→Bool} {k:Int} {tab:Tab} (ht:TabIs code tv k tab) (h:∀(k:Nat) x,code[k]? = some x→x.op=2→tv x.test=tv' x.test):TabIs code tv' k tab:=by
 have hi:∀p a,Cl code tv p a↔Cl code tv' p a:=fun p a=>⟨cl_congr h,cl_congr (fun k x hx ho=>(h k x hx ho).symm)⟩
 refine ⟨fun q hq => ?_,ht.c⟩
 obtain ⟨x,h1,h2,h3,h4,h5⟩:=ht.s q hq
 refine ⟨x,h1,h2,h3,fun a => ?_,?_⟩
 ·rw [h4,hi]
 ·rw [h5]
  constructor
  ·rintro ⟨a,y,c1,c2⟩;exact ⟨a,y,(hi _ _).1 c1,c2⟩
  ·rintro ⟨a,y,c1,c2⟩;exact ⟨a,y,(hi _ _).2 c1,c2⟩
theorem cl_nn {code:List In} (hI:Inb code) {tv:Tst→Bool} {p:Int} (h0:0≤p) {b:Int} (hb:Cl code tv p b):0≤b:=by
 induction hb with
 | zero=>omega
 | next h1 h2 h3 ih =>
  rename_i a x b
  obtain ⟨i1,i2,i3⟩:=hI _ x h2
  unfold nxP at h3
  split at h3
  ·split at h3
   ·simp at h3;omega
   ·simp at h3
  split at h3
  ·rename_i ho4
   simp at h3;subst h3;exact (i2 (Or.inl ho4)).1
  split at h3
  ·rename_i ho5
   simp at h3
   rcases h3 with rfl|rfl
   ·exact (i2 (Or.inr ho5)).1
   ·exact (i3 ho5).1
  ·simp at h3
def letters (codes:List (List In)) (Ts:List Tst):List (List Tab):=[0,1,2].flatMap fun k=>(allV Ts).map fun v=>codes.map fun c=>tabOf c (tvOf v) k
def ltr (codes:List (List In)) (Ts:List Tst) (e:Evt):List Tab:=codes.map fun c=>tabOf c (tvOf (Ts.map fun x=>(x,soE e x))) e.kind
def Knd (e:Evt):Prop:=e.kind=0∨e.kind=1∨e.kind=2
theorem ltr_mem {codes:List (List In)} {Ts:List Tst} {e:Evt} (h:Knd e):ltr codes Ts e∈letters codes Ts:=by
 unfold letters ltr
 refine List.mem_flatMap.2 ⟨e.kind,?_,List.mem_map.2 ⟨_,allV_mem (soE e) Ts,rfl⟩⟩
 rcases h with h|h|h <;> simp [h]
def stepV (tb:List Tab) (s:List Nat):List (Nat×Bool):=List.zipWith mstep tb s
def wordV (codes:List (List In)) (Ts:List Tst) (es:List Evt) (s:List Nat):List Nat:=es.foldl (fun s e=>(stepV (ltr codes Ts e) s).map Prod.fst) s
def dedV:List (List Nat)→List (List Nat)
 | []=>[]
 | x::r=>if (dedV r).contains x=true then dedV r else x::dedV r
theorem dedV_mem:∀(l:List (List Nat)) (x:List Nat),x∈l→x∈dedV l:=by
 intro l
 induction l with
 | nil=>intro x h;exact h
 | cons y r ih =>
  intro x h
  unfold dedV
  split
  ·rename_i hc
   rcases List.mem_cons.1 h with h|h
   ·subst h;exact List.contains_iff_mem.1 hc
   ·exact ih x h
  ·rcases List.mem_cons.1 h with h|h
   ·subst h;exact List.mem_cons_self
   ·exact List.mem_cons_of_mem _ (ih x h)
def chkD (ok:List Bool→Bool) (tabs:List (List Tab)):Nat→List (List Nat)→Bool
 | 0,_=>true
 | d+1,sts=>(sts.all fun s=>tabs.all fun tb=>ok ((stepV tb s).map Prod.snd))&&chkD ok tabs d (dedV (sts.flatMap fun s=>tabs.map fun tb=>(stepV tb s).map Prod.fst))
theorem chk_sound {codes:List (List In)} {Ts:List Tst} {ok:List Bool→Bool}:∀(es:List Evt) (d:Nat) (sts:List (List Nat)) (s:List Nat) (e:Evt),chkD ok (letters codes Ts) d sts=true→s∈sts→es.length<d→(∀x∈es,Knd x)→Knd e→ok ((stepV (ltr codes Ts e) (wordV codes Ts es s)).map Prod.snd)=true:=by
 intro es
 induction es with
 | nil =>
  intro d sts s e h hs hd _ he
  obtain ⟨d,rfl⟩:∃k,d=k+1:=⟨d - 1,by simp at hd;omega⟩
  unfold chkD at h
  simp only [Bool.and_eq_true,List.all_eq_true] at h
  exact h.1 s hs _ (ltr_mem he)
 | cons x r ih =>
  intro d sts s e h hs hd hk he
  obtain ⟨d,rfl⟩:∃k,d=k+1:=⟨d - 1,by simp at hd;omega⟩
  unfold chkD at h
  simp only [Bool.and_eq_true] at h
  refine ih d _ ((stepV (ltr codes Ts x) s).map Prod.fst) e h.2 (dedV_mem _ _ ?_) (by simpa using hd) (fun y hy=>hk y (List.mem_cons_of_mem _ hy)) he
  exact List.mem_flatMap.2 ⟨s,hs,List.mem_map.2 ⟨_,ltr_mem (hk x List.mem_cons_self),rfl⟩⟩
def maskOf (bs:List Nat):Nat:=bs.foldr (fun b m=>2 ^ b ||| m) 0
theorem maskOf_bit:∀(bs:List Nat) (p:Nat),(maskOf bs).testBit p=true↔p∈bs:=by
 intro bs
 induction bs with
 | nil=>intro p;simp [maskOf]
 | cons b r ih =>
  intro p
  show (2 ^ b ||| maskOf r).testBit p=true↔_
  rw [Nat.testBit_or,Bool.or_eq_true,ih,Nat.testBit_two_pow,List.mem_cons,decide_eq_true_eq]
  exact ⟨fun h=>h.imp Eq.symm id,fun h=>h.imp Eq.symm id⟩
structure CodeK (Ts:List Tst) (c:List In) (bs:List Nat):Prop where
 i:Inb c
 p:plainB c=true
 t:testsB Ts c=true
 v:∀v∈allV Ts,tabOkB c (tvOf v)=true
 b:∀b∈bs,∃x,c[b]? = some x∧x.op=0
theorem CodeK.tab {Ts:List Tst} {c:List In} {bs:List Nat} (h:CodeK Ts c bs) (e:Evt):TabIs c (soE e) e.kind (tabOf c (tvOf (Ts.map fun x=>(x,soE e x))) e.kind) :=
 (tabOf_is h.i (h.v _ (allV_mem (soE e) Ts)) e.kind).congr (fun k x hx ho=>tvOf_map (soE e) Ts _ (tests_in h.t hx ho))
theorem bg_ok {Ts:List Tst} {c:List In} {bs:List Nat} (h:CodeK Ts c bs) {L:List Evt} {f:Nat}:∀(i:Nat) (p:Int),Bg c bs L f i p→0≤p∧∃x,c[p.toNat]? = some x∧x.op=0:=by
 intro i
 induction i with
 | zero =>
  rintro p (⟨_,b,hb,rfl⟩ | hp)
  ·obtain ⟨x,hx,ho⟩:=h.b b hb
   exact ⟨by omega,x,by simpa using hx,ho⟩
  ·exact hp.elim
 | succ i ih =>
  rintro p (⟨_,b,hb,rfl⟩ | hp)
  ·obtain ⟨x,hx,ho⟩:=h.b b hb
   exact ⟨by omega,x,by simpa using hx,ho⟩
  ·obtain ⟨e,he,q,x,hq,hx,hk,hc,y,hy,ho⟩:=hp
   exact ⟨cl_nn h.i (ih q hq).1 hc,y,hy,ho⟩
theorem drop_take_snoc {α:Type} {L:List α} {f j:Nat} {e:α} (h:L[f+j]? = some e):(L.drop f).take (j+1)=(L.drop f).take j++[e]:=by
 rw [List.take_add_one,List.getElem?_drop,h];rfl
theorem word_is {codes:List (List In)} {bss:List (List Nat)} {Ts:List Tst} (hlen:bss.length=codes.length) (hK:∀(n:Nat) (c:List In) (bs:List Nat),codes[n]? = some c→bss[n]? = some bs→CodeK Ts c bs) {L:List Evt} {f:Nat} :
  ∀(j:Nat),f+j≤L.length→∀(n:Nat) (c:List In) (bs:List Nat),codes[n]? = some c→bss[n]? = some bs→∃S:Nat,(wordV codes Ts ((L.drop f).take j) (bss.map maskOf))[n]? = some S∧∀p:Nat,S.testBit p=true↔Bg c bs L f (f+j) p:=by
 intro j
 induction j with
 | zero =>
  intro _ n c bs hc hb
  refine ⟨maskOf bs,?_,?_⟩
  ·simp [wordV,hb]
  ·intro p
   rw [maskOf_bit]
   constructor
   ·intro h
    exact Or.inl ⟨rfl,p,h,rfl⟩
   ·rintro (⟨_,b,h,e⟩ | h)
    ·have:p=b:=by omega
     subst this;exact h
    ·exact absurd h (pl_none _ (by omega) _)
 | succ j ih =>
  intro hj n c bs hc hb
  obtain ⟨e,he⟩:∃e,L[f+j]? = some e:=⟨L[f+j],by simp [show f+j<L.length by omega]⟩
  obtain ⟨S,hS,hb2⟩:=ih (by omega) n c bs hc hb
  have hk:=hK n c bs hc hb
  obtain ⟨m1,_⟩:=mstep_is hk.i (hk.tab e) hb2 (bg_ok hk _)
  refine ⟨(mstep (tabOf c (tvOf (Ts.map fun x=>(x,soE e x))) e.kind) S).1,?_,?_⟩
  ·rw [drop_take_snoc he]
   have ew:wordV codes Ts ((L.drop f).take j++[e]) (bss.map maskOf)=(stepV (ltr codes Ts e) (wordV codes Ts ((L.drop f).take j) (bss.map maskOf))).map Prod.fst:=by
    unfold wordV
    rw [List.foldl_append]
    rfl
   rw [ew]
   simp only [stepV,List.getElem?_map,List.getElem?_zipWith,hS,ltr,hc,Option.map_some]
  ·intro p
   rw [m1]
   constructor
   ·intro h
    exact Or.inr ⟨e,he,h⟩
   ·rintro (⟨h,_⟩ | ⟨e',he',h⟩)
    ·omega
    ·have:some e=some e':=he.symm.trans he'
     cases this
     exact h
theorem chk_mean {codes:List (List In)} {bss:List (List Nat)} {Ts:List Tst} (hlen:bss.length=codes.length) (hK:∀(n:Nat) (c:List In) (bs:List Nat),codes[n]? = some c→bss[n]? = some bs→CodeK Ts c bs) {ok:List Bool→Bool} {d:Nat} (hchk:chkD ok (letters codes Ts) d [bss.map maskOf]=true)
  {L:List Evt} (hkd:∀x∈L,Knd x) (hL:L.length≤d) {f i:Nat} (hfi:f≤i) {e:Evt} (he:L[i]? = some e) :
  ∃asL:List Bool,ok asL=true∧∀(n:Nat) (c:List In) (bs:List Nat),codes[n]? = some c→bss[n]? = some bs→∃a:Bool,asL[n]? = some a∧(a=true↔Ac c e (Bg c bs L f i)):=by
 have hil:=(List.getElem?_eq_some_iff.1 he).1
 refine ⟨_,chk_sound ((L.drop f).take (i - f)) d [bss.map maskOf] (bss.map maskOf) e hchk List.mem_cons_self ?_ ?_ (hkd e (List.mem_of_getElem? he)),?_⟩
 ·rw [List.length_take];omega
 ·intro x hx
  exact hkd x (List.mem_of_mem_drop (List.mem_of_mem_take hx))
 ·intro n c bs hc hb
  obtain ⟨S,hS,hb2⟩:=word_is hlen hK (L:=L) (f:=f) (i - f) (by omega) n c bs hc hb
  rw [show f+(i - f)=i by omega] at hb2
  have hk:=hK n c bs hc hb
  obtain ⟨_,m2⟩:=mstep_is hk.i (hk.tab e) hb2 (bg_ok hk _)
  refine ⟨_,?_,m2⟩
  simp only [stepV,List.getElem?_map,List.getElem?_zipWith,hS,ltr,hc,Option.map_some]
theorem bg_late {code:List In} {bs:List Nat} {L:List Evt} {f i:Nat} (h:i<f) (p:Int):¬Bg code bs L f i p:=by
 rintro (⟨e,_⟩ | hp)
 ·omega
 ·exact pl_none i (by omega) p hp
def eqsB:List Bool→Bool
 | []=>true
 | a::r=>r.all fun b=>b == a
theorem chk_eq {codes:List (List In)} {bss:List (List Nat)} {Ts:List Tst} (hlen:bss.length=codes.length) (hK:∀(n:Nat) (c:List In) (bs:List Nat),codes[n]? = some c→bss[n]? = some bs→CodeK Ts c bs) {d:Nat} (hchk:chkD eqsB (letters codes Ts) d [bss.map maskOf]=true)
  {L:List Evt} (hkd:∀x∈L,Knd x) (hL:L.length≤d) {i:Nat} {e:Evt} (he:L[i]? = some e) {n:Nat} {c c0:List In} {bs b0:List Nat} (hc:codes[n]? = some c) (hb:bss[n]? = some bs) (hc0:codes[0]? = some c0) (hb0:bss[0]? = some b0) (u:Thr):Et c bs L i u↔Et c0 b0 L i u:=by
 rw [et_plain (hK n c bs hc hb).p he,et_plain (hK 0 c0 b0 hc0 hb0).p he]
 have key:∀f,f≤i→(Ac c e (Bg c bs L f i)↔Ac c0 e (Bg c0 b0 L f i)):=by
  intro f hf
  obtain ⟨asL,h1,h2⟩:=chk_mean hlen hK hchk hkd hL hf he
  obtain ⟨a,ha,ia⟩:=h2 n c bs hc hb
  obtain ⟨a0,ha0,ia0⟩:=h2 0 c0 b0 hc0 hb0
  rw [←ia,←ia0]
  have:a=a0:=by
   cases asL with
   | nil=>simp at ha
   | cons z r =>
    simp at ha0
    subst ha0
    cases n with
    | zero=>simp at ha;exact ha.symm
    | succ n =>
     simp at ha
     have:=(List.all_eq_true.1 h1) a (List.mem_of_getElem? ha)
     exact beq_iff_eq.1 this
  rw [this]
 constructor
 ·rintro ⟨f,ef,h1,h2,h3⟩
  by_cases hf:f≤i
  ·exact ⟨f,ef,h1,(key f hf).1 h2,h3⟩
  ·obtain ⟨p,x,hp,_⟩:=h2
   exact absurd hp (bg_late (by omega) p)
 ·rintro ⟨f,ef,h1,h2,h3⟩
  by_cases hf:f≤i
  ·exact ⟨f,ef,h1,(key f hf).2 h2,h3⟩
  ·obtain ⟨p,x,hp,_⟩:=h2
   exact absurd hp (bg_late (by omega) p)
end Go.Proofs.YtcboiapggnmpfaaGreatDoor
