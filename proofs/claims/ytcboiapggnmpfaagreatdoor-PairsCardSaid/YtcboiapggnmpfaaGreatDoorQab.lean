import Derived.Test.YtcboiapggnmpfaaGreatDoorQaa
namespace Go.Proofs.YtcboiapggnmpfaaGreatDoor
section
abbrev Ah:=Nat→Nat→Nat→Bool
def ahOne:Ah:=fun _ _ _=>false
def ahThen (n:Nat) (a b:Ah):Ah:=fun i st k =>
 if i<st+n then (if k<st+n then a i st k else true) else (if k<st+n then false else b i (st+n) k)
def ahOr (n:Nat) (a b:Ah):Ah:=fun i st k =>
 if i<st+n then (if k<st+n then a i st k else false) else (if k<st+n then false else b i (st+n) k)
def ahRound:Ah:=fun _ _ _=>true
section
variable {P Q:Part} {H K:Hand} {a b:Ah}
end
structure Tri where
 P:Part
 H:Hand
 ah:Ah
def Tri.one:Tri:=⟨Part.one,Hand.one,ahOne⟩
def Tri.round (lo hi:Int) (T:Tri):Tri:=⟨T.P.round lo hi,T.H.round,ahRound⟩
def Tri.andThen (T U:Tri):Tri:=⟨T.P.andThen U.P,T.H.andThen U.H,ahThen T.H.cnt T.ah U.ah⟩
def Tri.orElse (T U:Tri):Tri:=⟨T.P.orElse U.P,T.H.orElse U.H,ahOr T.H.cnt T.ah U.ah⟩
section
variable {α:Type} (f:α→Tri)
def repT (x:α×Rep):Tri :=
 match x.2 with
 | none=>f x.1
 | some (lo,hi)=>(f x.1).round lo hi
def seqT:α×Rep→List (α×Rep)→Tri
 | x,[]=>repT f x
 | x,y::ys=>(repT f x).andThen (seqT y ys)
def altT:SeqOf α→List (SeqOf α)→Tri
 | s,[]=>seqT f s.1 s.2
 | s,t::ts=>(seqT f s.1 s.2).orElse (altT t ts)
variable {f}
end
def atomT:(n:Nat)→Atom n→Tri
 | 0,_=>Tri.one
 | _+1,.inl _=>Tri.one
 | n+1,.inr t=>altT (atomT n) t.1 t.2
end
section
structure Rules where
 nm:Nat→Int
 kd:Nat→Int
 tr:Nat→List (Int×Int)
def firstOf (nm:Nat→Int) (x:Int):Nat→Nat
 | 0=>0
 | k+1=>if firstOf nm x k<k then firstOf nm x k else if nm k=x then k else k+1
theorem firstOf_spec (nm:Nat→Int) (x:Int):∀k,(firstOf nm x k<k→nm (firstOf nm x k)=x∧∀i,i<firstOf nm x k→¬nm i=x)∧(¬firstOf nm x k<k→firstOf nm x k=k∧∀i,i<k→¬nm i=x):=by
 intro k
 induction k with
 | zero=>exact ⟨fun h=>absurd h (by omega),fun _=>⟨rfl,fun i h=>absurd h (by omega)⟩⟩
 | succ k ih =>
  simp only [firstOf]
  by_cases h:firstOf nm x k<k
  ·simp only [if_pos h]
   exact ⟨fun _=>ih.1 h,fun h'=>absurd (by omega:firstOf nm x k<k+1) h'⟩
  ·obtain ⟨h1,h2⟩:=ih.2 h
   simp only [if_neg h]
   by_cases hk:nm k=x
   ·simp only [if_pos hk]
    exact ⟨fun _=>⟨hk,h2⟩,fun h'=>absurd (Nat.lt_succ_self k) h'⟩
   ·simp only [if_neg hk]
    refine ⟨fun h'=>absurd h' (Nat.lt_irrefl _),fun _=>⟨by trivial,?_⟩⟩
    intro i hi
    by_cases e:i=k
    ·subst e;exact hk
    ·exact h2 i (by omega)
section
variable (R:Rules) (hk:Int→Prop) (hf hg:Int→Int→Prop) (T:Tri) (n:Nat)
def rightS (k:Nat):Prop :=
 hk (R.kd k) ∧
 (R.nm k = -1∨(T.H.ir false 0 k=false∧T.H.svM R.nm (R.nm k) false 0 k=false∧(firstOf R.nm (R.nm k) k<k→R.kd (firstOf R.nm (R.nm k) k)=R.kd k))) ∧
 ∀t∈R.tr k,t.1=0∨(t.1=1∧hf (R.kd k) t.2) ∨
  (2≤t.1∧T.H.svS R.nm (t.1 - 2) false 0 k=true∧firstOf R.nm (t.1 - 2) k<k∧hf (R.kd (firstOf R.nm (t.1 - 2) k)) t.2)
end
theorem firstOf_le (nm:Nat→Int) (x:Int) (k:Nat):firstOf nm x k≤k:=by
 by_cases h:firstOf nm x k<k
 ·omega
 ·have:=((firstOf_spec nm x k).2 h).1;omega
end
section
def numV (acc:Int) (ds:List Tok):Int:=ds.foldl (fun a d=>10*a+(d.1 - 48)) acc
def yTm (t:Tm) (u:List Tok):Prop :=
 (1≤u.length∧u.length≤18∧(∀d∈u,isDigitB d.1=true)∧t=⟨0,0,numV 0 u⟩) ∨
 (∃c p,u=[(c,p)]∧isFieldB c=true∧t=⟨1,fieldV c,0⟩) ∨
 (∃n p c q,u=[(n,p),(c,q)]∧isNameB n=true∧isFieldB c=true∧t=⟨2+(n - 65),fieldV c,0⟩)
def yTst (t : Tst) (u : List Tok) : Prop :=
  ∃ a r p b, yTm t.left a ∧ yTm t.right b ∧ isRelB r = true ∧ t.rel = relV r ∧
    ((u = a ++ (r, p) :: b ∧ t.arith = 0 ∧ t.more = tm0) ∨
     (∃ d q m, isArithB d = true ∧ yTm t.more m ∧ t.arith = arithV d ∧ u = a ++ (r, p) :: (b ++ (d, q) :: m)))
def yTsts:List Tst→List Tok→Prop
 | [],_=>False
 | [t],u=>∃a p,yTst t a∧u=a++[(93,p)]
 | t::t2::ts,u=>∃a p v,yTst t a∧u=a++(38,p)::v∧yTsts (t2::ts) v
def yBox (ts:List Tst) (u:List Tok):Prop:=(ts=[]∧u=[])∨∃p v,u=(91,p)::v∧yTsts ts v
def yNm (n:Int) (u:List Tok):Prop:=(n = -1∧u=[])∨∃c p,isNameB c=true∧u=[(c,p)]∧n=c - 65
def ySt (s:St) (u:List Tok):Prop:=∃c a b,u=(c,s.pos)::(a++b)∧isKindB c=true∧s.kind=kindV c∧yNm s.name a∧yBox s.tests b
def yRepS (q:Rep) (u:List Tok):Prop :=
 (q=none∧u=[])∨(∃p,u=[(42,p)]∧q=some (0,-1))∨(∃p,u=[(43,p)]∧q=some (1,-1))∨(∃p,u=[(63,p)]∧q=some (0,1)) ∨
 (∃a b p0 p1 p2 p3,u=[(123,p0),(a,p1),(b,p2),(125,p3)]∧isDigitB a=true∧isDigitB b=true∧48<b∧a - 48≤b - 48∧q=some (a - 48,b - 48))
section
variable {α:Type} (ya:α→List Tok→Prop)
def yRep (x:α×Rep) (u:List Tok):Prop:=∃v r,u=v++r∧ya x.1 v∧yRepS x.2 r
def yReps:List (α×Rep)→List Tok→Prop
 | [],u=>u=[]
 | x::xs,u=>∃v r,u=v++r∧yRep ya x v∧yReps xs r
def ySeq (s:SeqOf α) (u:List Tok):Prop:=yReps ya (s.1::s.2) u
def yAlts:List (SeqOf α)→List Tok→Prop
 | [],u=>u=[]
 | s::ss,u=>∃p v r,u=(124,p)::(v++r)∧ySeq ya s v∧yAlts ss r
def yAlt (t:AltOf α) (u:List Tok):Prop:=∃v r,u=v++r∧ySeq ya t.1 v∧yAlts ya t.2 r
end
def yAtom:(n:Nat)→Atom n→List Tok→Prop
 | 0,s,u=>ySt s u
 | _+1,.inl s,u=>ySt s u
 | n+1,.inr t,u=>∃p v q,u=(40,p)::(v++[(41,q)])∧yAlt (yAtom n) t v
theorem pNum_y:∀(l:List Tok) (acc:Int) (k:Nat) (v:Int) (x:List Tok),k≤18→pNum acc k l=(some v,x)→∃u,l=u++x∧(∀d∈u,isDigitB d.1=true)∧k+u.length≤18∧1≤k+u.length∧v=numV acc u:=by
 intro l
 induction l with
 | nil =>
  intro acc k v x hk h
  simp only [pNum] at h
  split at h
  ·simp at h
  ·simp at h;exact ⟨[],by simp [h.2],by simp,by simp;omega,by simp;omega,by simp [numV,h.1]⟩
 | cons c l ih =>
  intro acc k v x hk h
  obtain ⟨c,p⟩:=c
  simp only [pNum] at h
  split at h
  ·rename_i hd
   split at h
   ·simp at h
   ·obtain ⟨u,h1,h2,h3,h4,h5⟩:=ih _ _ _ _ (by omega) h
    refine ⟨(c,p)::u,by simp [h1],?_,by simp;omega,by simp;omega,by simpa [numV] using h5⟩
    intro d hd'
    simp at hd'
    rcases hd' with e|e
    ·subst e;exact hd
    ·exact h2 d e
  ·split at h
   ·simp at h
   ·simp at h;exact ⟨[],by simp [h.2],by simp,by simp;omega,by simp;omega,by simp [numV,h.1]⟩
theorem pField_y {of:Int} {l x:List Tok} {t:Tm} (h:pField of l=(some t,x)):∃c p,l=(c,p)::x∧isFieldB c=true∧t=⟨of,fieldV c,0⟩:=by
 match l,h with
 | [],h=>simp [pField] at h
 | (c,p)::r,h =>
  simp only [pField] at h
  split at h
  ·rename_i hc;simp at h;exact ⟨c,p,by simp [h.2],hc,h.1.symm⟩
  ·simp at h
theorem pTerm_y {l x:List Tok} {t:Tm} (h:pTerm l=(some t,x)):∃u,l=u++x∧yTm t u:=by
 match l,h with
 | [],h=>simp [pTerm] at h
 | (c,p)::r,h =>
  simp only [pTerm] at h
  split at h
  ·split at h
   ·rename_i v y hv
    simp at h
    obtain ⟨u,h1,h2,h3,h4,h5⟩:=pNum_y _ _ _ _ _ (by omega) hv
    exact ⟨u,by rw [h1,h.2],Or.inl ⟨by omega,by omega,h2,by rw [←h.1,h5]⟩⟩
   ·simp at h
  ·split at h
   ·rename_i hn
    obtain ⟨d,q,h1,h2,h3⟩:=pField_y h
    exact ⟨[(c,p),(d,q)],by simp [h1],Or.inr (Or.inr ⟨c,p,d,q,rfl,hn,h2,h3⟩)⟩
   ·obtain ⟨d,q,h1,h2,h3⟩:=pField_y h
    simp at h1
    obtain ⟨⟨e1,e2⟩,e3⟩:=h1
    subst e1;subst e2
    exact ⟨[(c,p)],by simp [e3],Or.inr (Or.inl ⟨c,p,rfl,h2,h3⟩)⟩
theorem pTest_y {l x:List Tok} {t:Tst} (h:pTest l=(some t,x)):∃u,l=u++x∧yTst t u:=by
 unfold pTest at h
 split at h
 ·simp at h
 ·simp at h
 ·rename_i a c p r ha
  split at h
  ·rename_i hc
   split at h
   ·simp at h
   ·rename_i b y hb
    obtain ⟨u1,e1,y1⟩:=pTerm_y ha
    obtain ⟨u2,e2,y2⟩:=pTerm_y hb
    match y,h,e2 with
    | [],h,e2 =>
     simp [pTail] at h
     refine ⟨u1++(c,p)::u2,by rw [e1,e2,←h.2];simp,u1,c,p,u2,?_⟩
     rw [←h.1]
     exact ⟨y1,y2,hc,rfl,Or.inl ⟨rfl,rfl,rfl⟩⟩
    | (d,q)::y,h,e2 =>
     simp only [pTail] at h
     split at h
     ·rename_i hd
      split at h
      ·simp at h
      ·rename_i m z hm
       obtain ⟨u3,e3,y3⟩:=pTerm_y hm
       simp at h
       refine ⟨u1++(c,p)::(u2++(d,q)::u3),by rw [e1,e2,e3,h.2];simp,u1,c,p,u2,?_⟩
       rw [←h.1]
       exact ⟨y1,y2,hc,rfl,Or.inr ⟨d,q,u3,hd,y3,rfl,rfl⟩⟩
     ·simp at h
      refine ⟨u1++(c,p)::u2,by rw [e1,e2,←h.2];simp,u1,c,p,u2,?_⟩
      rw [←h.1]
      exact ⟨y1,y2,hc,rfl,Or.inl ⟨rfl,rfl,rfl⟩⟩
  ·simp at h
theorem yTsts_cons {t:Tst} {ts:List Tst} {a v:List Tok} {p:Nat} (h:yTst t a) (h2:yTsts ts v):yTsts (t::ts) (a++(38,p)::v):=by
 cases ts with
 | nil=>simp [yTsts] at h2
 | cons t2 ts=>exact ⟨a,p,v,h,rfl,h2⟩
theorem pTests_y:∀(n:Nat) (l x:List Tok) (ts:List Tst),pTests n l=(some ts,x)→∃u,l=u++x∧yTsts ts u:=by
 intro n
 induction n with
 | zero=>intro l x ts h;simp [pTests] at h
 | succ n ih =>
  intro l x ts h
  simp only [pTests] at h
  split at h
  ·simp at h
  ·simp at h
  ·rename_i t c p r ht
   obtain ⟨u1,e1,y1⟩:=pTest_y ht
   split at h
   ·rename_i hc
    subst hc
    split at h
    ·simp at h
    ·rename_i us y hu
     obtain ⟨u2,e2,y2⟩:=ih _ _ _ hu
     simp at h
     refine ⟨u1++(38,p)::u2,by rw [e1,e2,h.2];simp,?_⟩
     rw [←h.1]
     exact yTsts_cons y1 y2
   ·split at h
    ·rename_i hc
     subst hc
     simp at h
     refine ⟨u1++[(93,p)],by rw [e1,h.2];simp,?_⟩
     rw [←h.1]
     exact ⟨u1,p,y1,rfl⟩
    ·simp at h
theorem pName_y (l:List Tok):∃u,l=u++(pName l).2∧yNm (pName l).1 u:=by
 match l with
 | []=>exact ⟨[],rfl,Or.inl ⟨rfl,rfl⟩⟩
 | (c,p)::r =>
  simp only [pName]
  split
  ·rename_i hc;exact ⟨[(c,p)],rfl,Or.inr ⟨c,p,hc,rfl,rfl⟩⟩
  ·exact ⟨[],rfl,Or.inl ⟨rfl,rfl⟩⟩
theorem pBox_y {l x:List Tok} {ts:List Tst} (h:pBox l=(some ts,x)):∃u,l=u++x∧yBox ts u:=by
 match l,h with
 | [],h=>simp [pBox] at h;exact ⟨[],by simp [h.2.symm],Or.inl ⟨h.1,rfl⟩⟩
 | (c,p)::r,h =>
  simp only [pBox] at h
  split at h
  ·rename_i hc
   subst hc
   obtain ⟨u,e,y⟩:=pTests_y _ _ _ _ h
   exact ⟨(91,p)::u,by simp [e],Or.inr ⟨p,u,rfl,y⟩⟩
  ·simp at h;exact ⟨[],by simp [h.2.symm],Or.inl ⟨h.1,rfl⟩⟩
theorem pStep_y {l x:List Tok} {s:St} (h:pStep l=(some s,x)):∃u,l=u++x∧ySt s u:=by
 match l,h with
 | [],h=>simp [pStep] at h
 | (c,p)::r,h =>
  simp only [pStep] at h
  split at h
  ·rename_i hc
   split at h
   ·simp at h
   ·rename_i ts y hb
    obtain ⟨u1,e1,y1⟩:=pName_y r
    obtain ⟨u2,e2,y2⟩:=pBox_y hb
    simp at h
    refine ⟨(c,p)::(u1++u2),?_,c,u1,u2,?_⟩
    ·rw [h.2] at e2
     rw [List.cons_append,List.append_assoc,←e2,←e1]
    ·rw [←h.1]
     exact ⟨rfl,hc,rfl,y1,y2⟩
  ·simp at h
theorem pRepS_y {l x:List Tok} {q:Rep} (h:pRepS l=(some q,x)):∃u,l=u++x∧yRepS q u:=by
 match l,h with
 | [],h=>simp [pRepS] at h;exact ⟨[],by simp [h.2.symm],Or.inl ⟨h.1.symm,rfl⟩⟩
 | (c,p)::r,h =>
  simp only [pRepS] at h
  split at h
  ·rename_i hc;subst hc;simp at h;exact ⟨[(42,p)],by simp [h.2],Or.inr (Or.inl ⟨p,rfl,h.1.symm⟩)⟩
  ·split at h
   ·rename_i hc;subst hc;simp at h;exact ⟨[(43,p)],by simp [h.2],Or.inr (Or.inr (Or.inl ⟨p,rfl,h.1.symm⟩))⟩
   ·split at h
    ·rename_i hc;subst hc;simp at h;exact ⟨[(63,p)],by simp [h.2],Or.inr (Or.inr (Or.inr (Or.inl ⟨p,rfl,h.1.symm⟩)))⟩
    ·split at h
     ·rename_i hc
      subst hc
      match r,h with
      | [],h=>simp [pLow] at h
      | (a,p1)::r1,h =>
       simp only [pLow] at h
       split at h
       ·rename_i ha
        match r1,h with
        | [],h=>simp [pHigh] at h
        | (b,p2)::r2,h =>
         simp only [pHigh] at h
         split at h
         ·rename_i hb
          match r2,h with
          | [],h=>simp [pClose] at h
          | (d,p3)::r3,h =>
           simp only [pClose] at h
           split at h
           ·rename_i hd
            subst hd
            simp at h
            exact ⟨[(123,p),(a,p1),(b,p2),(125,p3)],by simp [h.2],Or.inr (Or.inr (Or.inr (Or.inr ⟨a,b,p,p1,p2,p3,rfl,ha,hb.1,hb.2.1,hb.2.2,h.1.symm⟩)))⟩
           ·simp at h
         ·simp at h
       ·simp at h
     ·simp at h;exact ⟨[],by simp [h.2.symm],Or.inl ⟨h.1.symm,rfl⟩⟩
section
variable {α:Type} {pa:List Tok→Option α×List Tok} {ya:α→List Tok→Prop}
def AtomY (pa:List Tok→Option α×List Tok) (ya:α→List Tok→Prop):Prop:=∀l a x,pa l=(some a,x)→∃u,l=u++x∧ya a u
theorem pRep_y (H:AtomY pa ya) {l x:List Tok} {a:α×Rep} (h:pRep pa l=(some a,x)):∃u,l=u++x∧yRep ya a u:=by
 unfold pRep at h
 split at h
 ·simp at h
 ·rename_i b r hb
  split at h
  ·simp at h
  ·rename_i q y hq
   obtain ⟨u1,e1,y1⟩:=H _ _ _ hb
   obtain ⟨u2,e2,y2⟩:=pRepS_y hq
   simp at h
   refine ⟨u1++u2,by rw [e1,e2,h.2];simp,u1,u2,rfl,?_⟩
   rw [←h.1]
   exact ⟨y1,y2⟩
theorem pMore_y (H:AtomY pa ya):∀(n:Nat) (l x:List Tok) (as0:List (α×Rep)),pMore pa n l=(some as0,x)→∃u,l=u++x∧yReps ya as0 u:=by
 intro n
 induction n with
 | zero=>intro l x as0 h;simp [pMore] at h;exact ⟨[],by simp [h.2],by rw [h.1];rfl⟩
 | succ n ih =>
  intro l x as0 h
  match l,h with
  | [],h=>simp [pMore] at h;exact ⟨[],by simp [h.2.symm],by rw [h.1];rfl⟩
  | (c,p)::r,h =>
   simp only [pMore] at h
   split at h
   ·split at h
    ·simp at h
    ·rename_i a y ha
     split at h
     ·simp at h
     ·rename_i bs z hb
      obtain ⟨u1,e1,y1⟩:=pRep_y H ha
      obtain ⟨u2,e2,y2⟩:=ih _ _ _ hb
      simp at h
      refine ⟨u1++u2,by rw [e1,e2,h.2];simp,?_⟩
      rw [←h.1]
      exact ⟨u1,u2,rfl,y1,y2⟩
   ·simp at h;exact ⟨[],by simp [h.2.symm],by rw [h.1];rfl⟩
theorem pSeq_y (H:AtomY pa ya) {l x:List Tok} {s:SeqOf α} (h:pSeq pa l=(some s,x)):∃u,l=u++x∧ySeq ya s u:=by
 unfold pSeq at h
 split at h
 ·simp at h
 ·rename_i a r ha
  split at h
  ·simp at h
  ·rename_i as0 y hb
   obtain ⟨u1,e1,y1⟩:=pRep_y H ha
   obtain ⟨u2,e2,y2⟩:=pMore_y H _ _ _ _ hb
   simp at h
   refine ⟨u1++u2,by rw [e1,e2,h.2];simp,?_⟩
   rw [←h.1]
   exact ⟨u1,u2,rfl,y1,y2⟩
theorem pAlts_y (H:AtomY pa ya):∀(n:Nat) (l x:List Tok) (as0:List (SeqOf α)),pAlts pa n l=(some as0,x)→∃u,l=u++x∧yAlts ya as0 u:=by
 intro n
 induction n with
 | zero=>intro l x as0 h;simp [pAlts] at h;exact ⟨[],by simp [h.2],by rw [h.1];rfl⟩
 | succ n ih =>
  intro l x as0 h
  match l,h with
  | [],h=>simp [pAlts] at h;exact ⟨[],by simp [h.2.symm],by rw [h.1];rfl⟩
  | (c,p)::r,h =>
   simp only [pAlts] at h
   split at h
   ·rename_i hc
    subst hc
    split at h
    ·simp at h
    ·rename_i a y ha
     split at h
     ·simp at h
     ·rename_i bs z hb
      obtain ⟨u1,e1,y1⟩:=pSeq_y H ha
      obtain ⟨u2,e2,y2⟩:=ih _ _ _ hb
      simp at h
      refine ⟨(124,p)::(u1++u2),by rw [e1,e2,h.2];simp,?_⟩
      rw [←h.1]
      exact ⟨p,u1,u2,rfl,y1,y2⟩
   ·simp at h;exact ⟨[],by simp [h.2.symm],by rw [h.1];rfl⟩
theorem pAlt_y (H:AtomY pa ya) {l x:List Tok} {t:AltOf α} (h:pAlt pa l=(some t,x)):∃u,l=u++x∧yAlt ya t u:=by
 unfold pAlt at h
 split at h
 ·simp at h
 ·rename_i a r ha
  split at h
  ·simp at h
  ·rename_i as0 y hb
   obtain ⟨u1,e1,y1⟩:=pSeq_y H ha
   obtain ⟨u2,e2,y2⟩:=pAlts_y H _ _ _ _ hb
   simp at h
   refine ⟨u1++u2,by rw [e1,e2,h.2];simp,?_⟩
   rw [←h.1]
   exact ⟨u1,u2,rfl,y1,y2⟩
end
theorem pAtom_y:∀n:Nat,AtomY (pAtom n) (yAtom n):=by
 intro n
 induction n with
 | zero=>intro l a x h;exact pStep_y h
 | succ n ih =>
  intro l a x h
  match l,h with
  | [],h=>simp [pAtom] at h
  | (c,p)::r,h =>
   simp only [pAtom] at h
   split at h
   ·rename_i hc
    subst hc
    split at h
    ·simp at h
    ·simp at h
    ·rename_i t d q y ht
     split at h
     ·rename_i hd
      subst hd
      obtain ⟨u,e,y1⟩:=pAlt_y ih ht
      simp at h
      refine ⟨(40,p)::(u++[(41,q)]),by rw [e,h.2];simp,?_⟩
      rw [←Option.some.inj h.1]
      exact ⟨p,u,q,rfl,y1⟩
     ·simp at h
   ·split at h
    ·simp at h
    ·rename_i s y hs
     obtain ⟨u,e,y1⟩:=pStep_y hs
     simp at h
     refine ⟨u,by rw [e,h.2],?_⟩
     rw [←Option.some.inj h.1]
     exact y1
theorem pTop_y {l:List Tok} {t:AltOf (Atom 8)} {o:Option Int} {x:List Tok} (h:pTopOf (pAtom 8) l=(some (t,o),x)) :
  ∃u,yAlt (yAtom 8) t u∧((o=none∧l=u)∨∃p ds,o=some (numV 0 ds)∧l=u++(64,p)::ds∧(∀d∈ds,isDigitB d.1=true)∧1≤ds.length∧ds.length≤18):=by
 unfold pTopOf at h
 split at h
 ·simp at h
 ·rename_i t' ht
  obtain ⟨u,e,y⟩:=pAlt_y (pAtom_y 8) ht
  simp at h
  obtain ⟨⟨rfl,rfl⟩,_⟩:=h
  exact ⟨u,y,Or.inl ⟨rfl,by simp [e]⟩⟩
 ·rename_i t' c p r ht
  obtain ⟨u,e,y⟩:=pAlt_y (pAtom_y 8) ht
  split at h
  ·rename_i hc
   subst hc
   split at h
   ·simp at h
   ·rename_i v hv
    obtain ⟨ds,h1,h2,h3,h4,h5⟩:=pNum_y _ _ _ _ _ (by omega) hv
    simp at h
    obtain ⟨⟨rfl,rfl⟩,_⟩:=h
    exact ⟨u,y,Or.inr ⟨p,ds,by rw [h5],by rw [e,h1];simp,h2,by omega,by omega⟩⟩
   ·simp at h
  ·simp at h
end
section
theorem isName_iff (c:Int):isNameB c=true↔(65≤c∧c≤90):=by simp [isNameB]
section
variable {α:Type} {ya:α→List Tok→Prop}
end
structure Pt where
 op:Int
 left:Int
 right:Int
 low:Int
 high:Int
 step:Int
section
variable {α:Type} (pp:α→Nat→Nat→List Pt) (ss:α→List St)
def seqS:α×Rep→List (α×Rep)→List St
 | x,[]=>ss x.1
 | x,y::ys=>ss x.1++seqS y ys
def altS:SeqOf α→List (SeqOf α)→List St
 | s,[]=>seqS ss s.1 s.2
 | s,t::ts=>seqS ss s.1 s.2++altS t ts
end
def atomS:(n:Nat)→Atom n→List St
 | 0,s=>[s]
 | _+1,.inl s=>[s]
 | n+1,.inr t=>altS (atomS n) t.1 t.2
end
def ValidIs (l:List In) (e a:Int):Prop :=
 (1000<l.length∧e=5∧a=0)∨(l.length≤1000∧(l=[]∨firstNone l<l.length)∧e=7∧a=firstNone l) ∨
 (l.length≤1000∧¬l=[]∧firstNone l=l.length∧∃k:Nat,RndFrom l 0 k∧k<l.length∧e=8∧a=k) ∨
 (l.length≤1000∧¬l=[]∧firstNone l=l.length∧RndFrom l 0 l.length∧e=0∧a=0)
theorem ValidIs.uniq {l:List In} {e a f b:Int} (h:ValidIs l e a) (h':ValidIs l f b):e=f∧a=b:=by
 rcases h with ⟨h1,h2,h3⟩ | ⟨h1,h2,h3,h4⟩ | ⟨h1,h2,h3,k,h4,h5,h6,h7⟩ | ⟨h1,h2,h3,h4,h5,h6⟩ <;>
 rcases h' with ⟨g1,g2,g3⟩ | ⟨g1,g2,g3,g4⟩ | ⟨g1,g2,g3,k',g4,g5,g6,g7⟩ | ⟨g1,g2,g3,g4,g5,g6⟩ <;>
 (try omega)
 ·rcases h2 with h2|h2
  ·exact absurd h2 g2
  ·omega
 ·rcases h2 with h2|h2
  ·exact absurd h2 g2
  ·omega
 ·rcases g2 with g2|g2
  ·exact absurd g2 h2
  ·omega
 ·have:=h4.uniq g4;omega
 ·have:=h4.uniq g4;omega
 ·rcases g2 with g2|g2
  ·exact absurd g2 h2
  ·omega
 ·have:=h4.uniq g4;omega
theorem rnd_from {l:List In} {i:Nat} (h:∀j,j<i→¬Rch l false j j) (hi:i<l.length) (hr:Rch l false i i):RndFrom l 0 i:=⟨by omega,by omega,fun j _ hj=>h j hj,fun _=>hr⟩
theorem rnd_none {l:List In} (h:∀j,j<l.length→¬Rch l false j j):RndFrom l 0 l.length:=⟨by omega,by omega,fun j _ hj=>h j hj,fun h=>absurd h (by omega)⟩
theorem drop_cons {l:List In} {i:Nat} {x:In} (h:l[i]? = some x):l.drop i=x::l.drop (i+1):=by
 obtain ⟨h1,h2⟩:=List.getElem?_eq_some_iff.1 h
 rw [List.drop_eq_getElem_cons h1,h2]
section
open Classical in
theorem ValidIs.all {l:List In} {a:Int} (h:ValidIs l 0 a):l.length≤1000∧¬l=[]∧AllIns l:=by
 rcases h with ⟨_,h,_⟩ | ⟨_,_,h,_⟩ | ⟨_,_,_,k,_,_,h,_⟩ | ⟨h1,h2,h3,_⟩
 ·omega
 ·omega
 ·omega
 ·exact ⟨h1,h2,allIns_of h3⟩
theorem tst0_of {t:Tst} (h:tst0B t=true):t=tst0:=by
 obtain ⟨⟨a,b,c⟩,d,⟨e,f,g⟩,i,⟨j,k,m⟩⟩:=t
 simp only [tst0B,tm0B,Bool.and_eq_true,decide_eq_true_eq] at h
 obtain ⟨⟨⟨⟨⟨⟨h1,h2⟩,h3⟩,h4⟩,⟨h5,h6⟩,h7⟩,h8⟩,⟨h9,h10⟩,h11⟩:=h
 subst h1 h2 h3 h4 h5 h6 h7 h8 h9 h10 h11
 rfl
theorem ins_jump {l:List In} (hA:AllIns l) {i:Nat} {x:In} (hx:l[i]? = some x) (h:x.op=4):0≤x.a∧x.a<l.length∧x.b=0∧x.test=tst0:=by
 have h1:=(hA i x hx).1
 simp only [insIsB,hiOf,h,Bool.and_eq_true,Bool.or_eq_true,decide_eq_true_eq] at h1
 obtain ⟨⟨⟨⟨⟨⟨a1,a2⟩,a3⟩,a4⟩,a5⟩,a6⟩,a7⟩:=h1
 simp at a4 a6 a7
 exact ⟨a3,a4,by omega,tst0_of a7⟩
theorem ins_split {l:List In} (hA:AllIns l) {i:Nat} {x:In} (hx:l[i]? = some x) (h:x.op=5):0≤x.a∧x.a<l.length∧0≤x.b∧x.b<l.length∧x.test=tst0:=by
 have h1:=(hA i x hx).1
 simp only [insIsB,hiOf,h,Bool.and_eq_true,Bool.or_eq_true,decide_eq_true_eq] at h1
 obtain ⟨⟨⟨⟨⟨⟨a1,a2⟩,a3⟩,a4⟩,a5⟩,a6⟩,a7⟩:=h1
 simp at a4 a6 a7
 exact ⟨a3,a4,a5,a6,tst0_of a7⟩
def nx1 (x:In) (i:Nat):Int:=if x.op=4 then x.a else if x.op=5 then x.a else if x.op=6 then -1 else i+1
def nx2 (x:In) (i:Nat):Int:=if x.op=4 then x.a else if x.op=5 then x.b else if x.op=6 then -1 else i+1
theorem nx_spec {l:List In} (hA:AllIns l) {i:Nat} {x:In} (hx:l[i]? = some x) :
  (x.op=6∧nx1 x i = -1∧nx2 x i = -1∧nxt x i=[])∨(¬x.op=6∧∃j1 j2:Nat,nx1 x i=j1∧nx2 x i=j2∧j1<l.length∧j2<l.length∧∀j,j∈nxt x i↔j=j1∨j=j2):=by
 have hlt:=nxt_lt hA hx
 by_cases h6:x.op=6
 ·exact Or.inl ⟨h6,by simp [nx1,h6],by simp [nx2,h6],by simp [nxt,h6]⟩
 ·refine Or.inr ⟨h6,?_⟩
  by_cases h4:x.op=4
  ·have:=ins_jump hA hx h4
   refine ⟨x.a.toNat,x.a.toNat,?_,?_,by omega,by omega,?_⟩
   ·simp [nx1,h4];omega
   ·simp [nx2,h4];omega
   ·simp [nxt,h4]
  ·by_cases h5:x.op=5
   ·have:=ins_split hA hx h5
    refine ⟨x.a.toNat,x.b.toNat,?_,?_,by omega,by omega,?_⟩
    ·simp [nx1,h5];omega
    ·simp [nx2,h5];omega
    ·simp [nxt,h5]
   ·have e:nxt x i=[i+1]:=by simp [nxt,h4,h5,h6]
    rw [e] at hlt
    refine ⟨i+1,i+1,?_,?_,hlt _ (by simp),hlt _ (by simp),?_⟩
    ·simp [nx1,h4,h5,h6]
    ·simp [nx2,h4,h5,h6]
    ·rw [e];simp
def mkB (bs:List Bool) (z:Int):List Bool:=if 0≤z∧bs[z.toNat]? = some false then bs.set z.toNat true else bs
def mkQ (bs:List Bool) (q:List Nat) (z:Int):List Nat:=if 0≤z∧bs[z.toNat]? = some false then q++[z.toNat] else q
theorem mkB_neg (bs:List Bool):mkB bs (-1)=bs:=by simp [mkB]
theorem mkQ_neg (bs:List Bool) (q:List Nat):mkQ bs q (-1)=q:=by simp [mkQ]
theorem mkB_len (bs:List Bool) (z:Int):(mkB bs z).length=bs.length:=by unfold mkB;split <;> simp
theorem mk_cnt (bs:List Bool) (q:List Nat) (z:Int):(mkQ bs q z).length+(mkB bs z).count false=q.length+bs.count false:=by
 unfold mkB mkQ
 split
 ·rename_i h
  have:=count_set h.2
  simp;omega
 ·rfl
theorem Leav.mk1 {l:List In} {t:Bool} {i:Nat} {bs:List Bool} {done:Nat→Prop} {q:List Nat} {x j:Nat} {ys:List Nat} (h:Leav l t i bs done q x ys) (he:Edge l t x j) (hj:j<l.length):Leav l t i (mkB bs j) done (mkQ bs q j) x (ys++[j]):=by
 unfold mkB mkQ
 split
 ·simpa using h.mark he hj
 ·rename_i hn
  have hl:=h.len
  have:bs[j]? = some true:=by
   rw [List.getElem?_eq_getElem (by omega)] at hn ⊢
   simp at hn
   simp [hn]
  exact h.skip this
theorem Leav.both {l:List In} {t:Bool} {i:Nat} {bs:List Bool} {done:Nat→Prop} {q:List Nat} {x:Nat} {v:In} (h:Leav l t i bs done q x []) (hA:AllIns l) (hv:l[x]? = some v) (h0:v.op=0→t=true) :
  Srch l t i (mkB (mkB bs (nx1 v x)) (nx2 v x)) (fun y=>done y∨y=x) (mkQ (mkB bs (nx1 v x)) (mkQ bs q (nx1 v x)) (nx2 v x)):=by
 rcases nx_spec hA hv with ⟨h6,e1,e2,e3⟩ | ⟨h6,j1,j2,e1,e2,l1,l2,e3⟩
 ·rw [e1,e2,mkB_neg,mkB_neg,mkQ_neg,mkQ_neg]
  refine h.left (fun j hj => ?_)
  rw [edge_of hv h0,e3] at hj
  exact hj
 ·rw [e1,e2]
  have k1:=h.mk1 ((edge_of hv h0).2 ((e3 j1).2 (Or.inl rfl))) l1
  have k2:=k1.mk1 ((edge_of hv h0).2 ((e3 j2).2 (Or.inr rfl))) l2
  refine k2.left (fun j hj => ?_)
  rw [edge_of hv h0,e3] at hj
  simpa using hj
end
end Go.Proofs.YtcboiapggnmpfaaGreatDoor
