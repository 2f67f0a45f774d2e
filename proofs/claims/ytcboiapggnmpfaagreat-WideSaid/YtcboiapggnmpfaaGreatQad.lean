import Derived.Test.YtcboiapggnmpfaaGreatQaa
namespace Go.Proofs.YtcboiapggnmpfaaGreat
section
def numV (acc:Int) (ds:List Tok):Int:=ds.foldl (fun a d=>10*a+(d.1 - 48)) acc
def yTm (t:Tm) (u:List Tok):Prop :=
 (1≤u.length∧u.length≤18∧(∀d∈u,isDigitB d.1=true)∧t=⟨0,0,numV 0 u⟩) ∨
 (∃c p,u=[(c,p)]∧isFieldB c=true∧t=⟨1,fieldV c,0⟩) ∨
 (∃n p c q,u=[(n,p),(c,q)]∧isNameB n=true∧isFieldB c=true∧t=⟨2+(n - 65),fieldV c,0⟩)
def yTst (t : Tst) (u : List Tok) : Prop :=
  ∃ a r p b, yTm t.left a ∧ yTm t.right b ∧ isRelB r = true ∧ t.rel = relV r ∧
    ((u = a ++ (r, p) :: b ∧ t.arith = 0 ∧ t.more = tm0) ∨
     (∃ d q m, isArithB d = true ∧ yTm t.more m ∧ t.arith = arithV d ∧ u = a ++ (r, p) :: (b ++ (d, q) :: m)))
def yTsts:List Tst→List Tok→Prop
 | [],_=>False
 | [t],u=>∃a p,yTst t a∧u=a++[(93,p)]
 | t::t2::ts,u=>∃a p v,yTst t a∧u=a++(38,p)::v∧yTsts (t2::ts) v
def yBox (ts:List Tst) (u:List Tok):Prop:=(ts=[]∧u=[])∨∃p v,u=(91,p)::v∧yTsts ts v
def yNm (n:Int) (u:List Tok):Prop:=(n = -1∧u=[])∨∃c p,isNameB c=true∧u=[(c,p)]∧n=c - 65
def ySt (s:St) (u:List Tok):Prop:=∃c a b,u=(c,s.pos)::(a++b)∧isKindB c=true∧s.kind=kindV c∧yNm s.name a∧yBox s.tests b
def yRepS (q:Rep) (u:List Tok):Prop :=
 (q=none∧u=[])∨(∃p,u=[(42,p)]∧q=some (0,-1))∨(∃p,u=[(43,p)]∧q=some (1,-1))∨(∃p,u=[(63,p)]∧q=some (0,1)) ∨
 (∃a b p0 p1 p2 p3,u=[(123,p0),(a,p1),(b,p2),(125,p3)]∧isDigitB a=true∧isDigitB b=true∧48<b∧a - 48≤b - 48∧q=some (a - 48,b - 48))
section
variable {α:Type} (ya:α→List Tok→Prop)
def yRep (x:α×Rep) (u:List Tok):Prop:=∃v r,u=v++r∧ya x.1 v∧yRepS x.2 r
def yReps:List (α×Rep)→List Tok→Prop
 | [],u=>u=[]
 | x::xs,u=>∃v r,u=v++r∧yRep ya x v∧yReps xs r
def ySeq (s:SeqOf α) (u:List Tok):Prop:=yReps ya (s.1::s.2) u
def yAlts:List (SeqOf α)→List Tok→Prop
 | [],u=>u=[]
 | s::ss,u=>∃p v r,u=(124,p)::(v++r)∧ySeq ya s v∧yAlts ss r
def yAlt (t:AltOf α) (u:List Tok):Prop:=∃v r,u=v++r∧ySeq ya t.1 v∧yAlts ya t.2 r
end
def yAtom:(n:Nat)→Atom n→List Tok→Prop
 | 0,s,u=>ySt s u
 | _+1,.inl s,u=>ySt s u
 | n+1,.inr t,u=>∃p v q,u=(40,p)::(v++[(41,q)])∧yAlt (yAtom n) t v
theorem pNum_y:∀(l:List Tok) (acc:Int) (k:Nat) (v:Int) (x:List Tok),k≤18→pNum acc k l=(some v,x)→∃u,l=u++x∧(∀d∈u,isDigitB d.1=true)∧k+u.length≤18∧1≤k+u.length∧v=numV acc u:=by
 intro l
 induction l with
 | nil =>
  intro acc k v x hk h
  simp only [pNum] at h
  split at h
  ·simp at h
  ·simp at h;exact ⟨[],by simp [h.2],by simp,by simp;omega,by simp;omega,by simp [numV,h.1]⟩
 | cons c l ih =>
  intro acc k v x hk h
  obtain ⟨c,p⟩:=c
  simp only [pNum] at h
  split at h
  ·rename_i hd
   split at h
   ·simp at h
   ·obtain ⟨u,h1,h2,h3,h4,h5⟩:=ih _ _ _ _ (by omega) h
    refine ⟨(c,p)::u,by simp [h1],?_,by simp;omega,by simp;omega,by simpa [numV] using h5⟩
    intro d hd'
    simp at hd'
    rcases hd' with e|e
    ·subst e;exact hd
    ·exact h2 d e
  ·split at h
   ·simp at h
   ·simp at h;exact ⟨[],by simp [h.2],by simp,by simp;omega,by simp;omega,by simp [numV,h.1]⟩
theorem pField_y {of:Int} {l x:List Tok} {t:Tm} (h:pField of l=(some t,x)):∃c p,l=(c,p)::x∧isFieldB c=true∧t=⟨of,fieldV c,0⟩:=by
 match l,h with
 | [],h=>simp [pField] at h
 | (c,p)::r,h =>
  simp only [pField] at h
  split at h
  ·rename_i hc;simp at h;exact ⟨c,p,by simp [h.2],hc,h.1.symm⟩
  ·simp at h
theorem pTerm_y {l x:List Tok} {t:Tm} (h:pTerm l=(some t,x)):∃u,l=u++x∧yTm t u:=by
 match l,h with
 | [],h=>simp [pTerm] at h
 | (c,p)::r,h =>
  simp only [pTerm] at h
  split at h
  ·split at h
   ·rename_i v y hv
    simp at h
    obtain ⟨u,h1,h2,h3,h4,h5⟩:=pNum_y _ _ _ _ _ (by omega) hv
    exact ⟨u,by rw [h1,h.2],Or.inl ⟨by omega,by omega,h2,by rw [←h.1,h5]⟩⟩
   ·simp at h
  ·split at h
   ·rename_i hn
    obtain ⟨d,q,h1,h2,h3⟩:=pField_y h
    exact ⟨[(c,p),(d,q)],by simp [h1],Or.inr (Or.inr ⟨c,p,d,q,rfl,hn,h2,h3⟩)⟩
   ·obtain ⟨d,q,h1,h2,h3⟩:=pField_y h
    simp at h1
    obtain ⟨⟨e1,e2⟩,e3⟩:=h1
    subst e1;subst e2
    exact ⟨[(c,p)],by simp [e3],Or.inr (Or.inl ⟨c,p,rfl,h2,h3⟩)⟩
theorem pTest_y {l x:List Tok} {t:Tst} (h:pTest l=(some t,x)):∃u,l=u++x∧yTst t u:=by
 unfold pTest at h
 split at h
 ·simp at h
 ·simp at h
 ·rename_i a c p r ha
  split at h
  ·rename_i hc
   split at h
   ·simp at h
   ·rename_i b y hb
    obtain ⟨u1,e1,y1⟩:=pTerm_y ha
    obtain ⟨u2,e2,y2⟩:=pTerm_y hb
    match y,h,e2 with
    | [],h,e2 =>
     simp [pTail] at h
     refine ⟨u1++(c,p)::u2,by rw [e1,e2,←h.2];simp,u1,c,p,u2,?_⟩
     rw [←h.1]
     exact ⟨y1,y2,hc,rfl,Or.inl ⟨rfl,rfl,rfl⟩⟩
    | (d,q)::y,h,e2 =>
     simp only [pTail] at h
     split at h
     ·rename_i hd
      split at h
      ·simp at h
      ·rename_i m z hm
       obtain ⟨u3,e3,y3⟩:=pTerm_y hm
       simp at h
       refine ⟨u1++(c,p)::(u2++(d,q)::u3),by rw [e1,e2,e3,h.2];simp,u1,c,p,u2,?_⟩
       rw [←h.1]
       exact ⟨y1,y2,hc,rfl,Or.inr ⟨d,q,u3,hd,y3,rfl,rfl⟩⟩
     ·simp at h
      refine ⟨u1++(c,p)::u2,by rw [e1,e2,←h.2];simp,u1,c,p,u2,?_⟩
      rw [←h.1]
      exact ⟨y1,y2,hc,rfl,Or.inl ⟨rfl,rfl,rfl⟩⟩
  ·simp at h
theorem yTsts_cons {t:Tst} {ts:List Tst} {a v:List Tok} {p:Nat} (h:yTst t a) (h2:yTsts ts v):yTsts (t::ts) (a++(38,p)::v):=by
 cases ts with
 | nil=>simp [yTsts] at h2
 | cons t2 ts=>exact ⟨a,p,v,h,rfl,h2⟩
theorem pTests_y:∀(n:Nat) (l x:List Tok) (ts:List Tst),pTests n l=(some ts,x)→∃u,l=u++x∧yTsts ts u:=by
 intro n
 induction n with
 | zero=>intro l x ts h;simp [pTests] at h
 | succ n ih =>
  intro l x ts h
  simp only [pTests] at h
  split at h
  ·simp at h
  ·simp at h
  ·rename_i t c p r ht
   obtain ⟨u1,e1,y1⟩:=pTest_y ht
   split at h
   ·rename_i hc
    subst hc
    split at h
    ·simp at h
    ·rename_i us y hu
     obtain ⟨u2,e2,y2⟩:=ih _ _ _ hu
     simp at h
     refine ⟨u1++(38,p)::u2,by rw [e1,e2,h.2];simp,?_⟩
     rw [←h.1]
     exact yTsts_cons y1 y2
   ·split at h
    ·rename_i hc
     subst hc
     simp at h
     refine ⟨u1++[(93,p)],by rw [e1,h.2];simp,?_⟩
     rw [←h.1]
     exact ⟨u1,p,y1,rfl⟩
    ·simp at h
theorem pName_y (l:List Tok):∃u,l=u++(pName l).2∧yNm (pName l).1 u:=by
 match l with
 | []=>exact ⟨[],rfl,Or.inl ⟨rfl,rfl⟩⟩
 | (c,p)::r =>
  simp only [pName]
  split
  ·rename_i hc;exact ⟨[(c,p)],rfl,Or.inr ⟨c,p,hc,rfl,rfl⟩⟩
  ·exact ⟨[],rfl,Or.inl ⟨rfl,rfl⟩⟩
theorem pBox_y {l x:List Tok} {ts:List Tst} (h:pBox l=(some ts,x)):∃u,l=u++x∧yBox ts u:=by
 match l,h with
 | [],h=>simp [pBox] at h;exact ⟨[],by simp [h.2.symm],Or.inl ⟨h.1,rfl⟩⟩
 | (c,p)::r,h =>
  simp only [pBox] at h
  split at h
  ·rename_i hc
   subst hc
   obtain ⟨u,e,y⟩:=pTests_y _ _ _ _ h
   exact ⟨(91,p)::u,by simp [e],Or.inr ⟨p,u,rfl,y⟩⟩
  ·simp at h;exact ⟨[],by simp [h.2.symm],Or.inl ⟨h.1,rfl⟩⟩
theorem pStep_y {l x:List Tok} {s:St} (h:pStep l=(some s,x)):∃u,l=u++x∧ySt s u:=by
 match l,h with
 | [],h=>simp [pStep] at h
 | (c,p)::r,h =>
  simp only [pStep] at h
  split at h
  ·rename_i hc
   split at h
   ·simp at h
   ·rename_i ts y hb
    obtain ⟨u1,e1,y1⟩:=pName_y r
    obtain ⟨u2,e2,y2⟩:=pBox_y hb
    simp at h
    refine ⟨(c,p)::(u1++u2),?_,c,u1,u2,?_⟩
    ·rw [h.2] at e2
     rw [List.cons_append,List.append_assoc,←e2,←e1]
    ·rw [←h.1]
     exact ⟨rfl,hc,rfl,y1,y2⟩
  ·simp at h
theorem pRepS_y {l x:List Tok} {q:Rep} (h:pRepS l=(some q,x)):∃u,l=u++x∧yRepS q u:=by
 match l,h with
 | [],h=>simp [pRepS] at h;exact ⟨[],by simp [h.2.symm],Or.inl ⟨h.1.symm,rfl⟩⟩
 | (c,p)::r,h =>
  simp only [pRepS] at h
  split at h
  ·rename_i hc;subst hc;simp at h;exact ⟨[(42,p)],by simp [h.2],Or.inr (Or.inl ⟨p,rfl,h.1.symm⟩)⟩
  ·split at h
   ·rename_i hc;subst hc;simp at h;exact ⟨[(43,p)],by simp [h.2],Or.inr (Or.inr (Or.inl ⟨p,rfl,h.1.symm⟩))⟩
   ·split at h
    ·rename_i hc;subst hc;simp at h;exact ⟨[(63,p)],by simp [h.2],Or.inr (Or.inr (Or.inr (Or.inl ⟨p,rfl,h.1.symm⟩)))⟩
    ·split at h
     ·rename_i hc
      subst hc
      match r,h with
      | [],h=>simp [pLow] at h
      | (a,p1)::r1,h =>
       simp only [pLow] at h
       split at h
       ·rename_i ha
        match r1,h with
        | [],h=>simp [pHigh] at h
        | (b,p2)::r2,h =>
         simp only [pHigh] at h
         split at h
         ·rename_i hb
          match r2,h with
          | [],h=>simp [pClose] at h
          | (d,p3)::r3,h =>
           simp only [pClose] at h
           split at h
           ·rename_i hd
            subst hd
            simp at h
            exact ⟨[(123,p),(a,p1),(b,p2),(125,p3)],by simp [h.2],Or.inr (Or.inr (Or.inr (Or.inr ⟨a,b,p,p1,p2,p3,rfl,ha,hb.1,hb.2.1,hb.2.2,h.1.symm⟩)))⟩
           ·simp at h
         ·simp at h
       ·simp at h
     ·simp at h;exact ⟨[],by simp [h.2.symm],Or.inl ⟨h.1.symm,rfl⟩⟩
section
variable {α:Type} {pa:List Tok→Option α×List Tok} {ya:α→List Tok→Prop}
def AtomY (pa:List Tok→Option α×List Tok) (ya:α→List Tok→Prop):Prop:=∀l a x,pa l=(some a,x)→∃u,l=u++x∧ya a u
theorem pRep_y (H:AtomY pa ya) {l x:List Tok} {a:α×Rep} (h:pRep pa l=(some a,x)):∃u,l=u++x∧yRep ya a u:=by
 unfold pRep at h
 split at h
 ·simp at h
 ·rename_i b r hb
  split at h
  ·simp at h
  ·rename_i q y hq
   obtain ⟨u1,e1,y1⟩:=H _ _ _ hb
   obtain ⟨u2,e2,y2⟩:=pRepS_y hq
   simp at h
   refine ⟨u1++u2,by rw [e1,e2,h.2];simp,u1,u2,rfl,?_⟩
   rw [←h.1]
   exact ⟨y1,y2⟩
theorem pMore_y (H:AtomY pa ya):∀(n:Nat) (l x:List Tok) (as0:List (α×Rep)),pMore pa n l=(some as0,x)→∃u,l=u++x∧yReps ya as0 u:=by
 intro n
 induction n with
 | zero=>intro l x as0 h;simp [pMore] at h;exact ⟨[],by simp [h.2],by rw [h.1];rfl⟩
 | succ n ih =>
  intro l x as0 h
  match l,h with
  | [],h=>simp [pMore] at h;exact ⟨[],by simp [h.2.symm],by rw [h.1];rfl⟩
  | (c,p)::r,h =>
   simp only [pMore] at h
   split at h
   ·split at h
    ·simp at h
    ·rename_i a y ha
     split at h
     ·simp at h
     ·rename_i bs z hb
      obtain ⟨u1,e1,y1⟩:=pRep_y H ha
      obtain ⟨u2,e2,y2⟩:=ih _ _ _ hb
      simp at h
      refine ⟨u1++u2,by rw [e1,e2,h.2];simp,?_⟩
      rw [←h.1]
      exact ⟨u1,u2,rfl,y1,y2⟩
   ·simp at h;exact ⟨[],by simp [h.2.symm],by rw [h.1];rfl⟩
theorem pSeq_y (H:AtomY pa ya) {l x:List Tok} {s:SeqOf α} (h:pSeq pa l=(some s,x)):∃u,l=u++x∧ySeq ya s u:=by
 unfold pSeq at h
 split at h
 ·simp at h
 ·rename_i a r ha
  split at h
  ·simp at h
  ·rename_i as0 y hb
   obtain ⟨u1,e1,y1⟩:=pRep_y H ha
   obtain ⟨u2,e2,y2⟩:=pMore_y H _ _ _ _ hb
   simp at h
   refine ⟨u1++u2,by rw [e1,e2,h.2];simp,?_⟩
   rw [←h.1]
   exact ⟨u1,u2,rfl,y1,y2⟩
theorem pAlts_y (H:AtomY pa ya):∀(n:Nat) (l x:List Tok) (as0:List (SeqOf α)),pAlts pa n l=(some as0,x)→∃u,l=u++x∧yAlts ya as0 u:=by
 intro n
 induction n with
 | zero=>intro l x as0 h;simp [pAlts] at h;exact ⟨[],by simp [h.2],by rw [h.1];rfl⟩
 | succ n ih =>
  intro l x as0 h
  match l,h with
  | [],h=>simp [pAlts] at h;exact ⟨[],by simp [h.2.symm],by rw [h.1];rfl⟩
  | (c,p)::r,h =>
   simp only [pAlts] at h
   split at h
   ·rename_i hc
    subst hc
    split at h
    ·simp at h
    ·rename_i a y ha
     split at h
     ·simp at h
     ·rename_i bs z hb
      obtain ⟨u1,e1,y1⟩:=pSeq_y H ha
      obtain ⟨u2,e2,y2⟩:=ih _ _ _ hb
      simp at h
      refine ⟨(124,p)::(u1++u2),by rw [e1,e2,h.2];simp,?_⟩
      rw [←h.1]
      exact ⟨p,u1,u2,rfl,y1,y2⟩
   ·simp at h;exact ⟨[],by simp [h.2.symm],by rw [h.1];rfl⟩
theorem pAlt_y (H:AtomY pa ya) {l x:List Tok} {t:AltOf α} (h:pAlt pa l=(some t,x)):∃u,l=u++x∧yAlt ya t u:=by
 unfold pAlt at h
 split at h
 ·simp at h
 ·rename_i a r ha
  split at h
  ·simp at h
  ·rename_i as0 y hb
   obtain ⟨u1,e1,y1⟩:=pSeq_y H ha
   obtain ⟨u2,e2,y2⟩:=pAlts_y H _ _ _ _ hb
   simp at h
   refine ⟨u1++u2,by rw [e1,e2,h.2];simp,?_⟩
   rw [←h.1]
   exact ⟨u1,u2,rfl,y1,y2⟩
end
theorem pAtom_y:∀n:Nat,AtomY (pAtom n) (yAtom n):=by
 intro n
 induction n with
 | zero=>intro l a x h;exact pStep_y h
 | succ n ih =>
  intro l a x h
  match l,h with
  | [],h=>simp [pAtom] at h
  | (c,p)::r,h =>
   simp only [pAtom] at h
   split at h
   ·rename_i hc
    subst hc
    split at h
    ·simp at h
    ·simp at h
    ·rename_i t d q y ht
     split at h
     ·rename_i hd
      subst hd
      obtain ⟨u,e,y1⟩:=pAlt_y ih ht
      simp at h
      refine ⟨(40,p)::(u++[(41,q)]),by rw [e,h.2];simp,?_⟩
      rw [←Option.some.inj h.1]
      exact ⟨p,u,q,rfl,y1⟩
     ·simp at h
   ·split at h
    ·simp at h
    ·rename_i s y hs
     obtain ⟨u,e,y1⟩:=pStep_y hs
     simp at h
     refine ⟨u,by rw [e,h.2],?_⟩
     rw [←Option.some.inj h.1]
     exact y1
theorem pTop_y {l:List Tok} {t:AltOf (Atom 8)} {o:Option Int} {x:List Tok} (h:pTopOf (pAtom 8) l=(some (t,o),x)) :
  ∃u,yAlt (yAtom 8) t u∧((o=none∧l=u)∨∃p ds,o=some (numV 0 ds)∧l=u++(64,p)::ds∧(∀d∈ds,isDigitB d.1=true)∧1≤ds.length∧ds.length≤18):=by
 unfold pTopOf at h
 split at h
 ·simp at h
 ·rename_i t' ht
  obtain ⟨u,e,y⟩:=pAlt_y (pAtom_y 8) ht
  simp at h
  obtain ⟨⟨rfl,rfl⟩,_⟩:=h
  exact ⟨u,y,Or.inl ⟨rfl,by simp [e]⟩⟩
 ·rename_i t' c p r ht
  obtain ⟨u,e,y⟩:=pAlt_y (pAtom_y 8) ht
  split at h
  ·rename_i hc
   subst hc
   split at h
   ·simp at h
   ·rename_i v hv
    obtain ⟨ds,h1,h2,h3,h4,h5⟩:=pNum_y _ _ _ _ _ (by omega) hv
    simp at h
    obtain ⟨⟨rfl,rfl⟩,_⟩:=h
    exact ⟨u,y,Or.inr ⟨p,ds,by rw [h5],by rw [e,h1];simp,h2,by omega,by omega⟩⟩
   ·simp at h
  ·simp at h
end
section
def brk (c:Int):Int:=if c=40∨c=91∨c=123 then 1 else if c=41∨c=93∨c=125 then -1 else 0
def sh:Int→List Tok→Nat
 | _,[]=>0
 | n,c::r=>if n+brk c.1=0 then 1 else 1+sh (n+brk c.1) r
def Bal (u:List Tok):Prop:=∀n x,1≤n→sh n (u++x)=u.length+sh n x
theorem Bal.nil:Bal []:=by intro n x _;simp
theorem Bal.append {u v:List Tok} (h:Bal u) (h2:Bal v):Bal (u++v):=by
 intro n x hn
 rw [List.append_assoc,h n _ hn,h2 n x hn,List.length_append];omega
theorem Bal.cons {c:Tok} {u:List Tok} (hc:brk c.1=0) (h:Bal u):Bal (c::u):=by
 intro n x hn
 rw [List.cons_append]
 simp only [sh,hc,Int.add_zero,List.length_cons]
 rw [if_neg (by omega),h n x hn];omega
def Sc:Nat→List Tok→Prop
 | 0,u=>u=[]
 | k+1,u=>(∃c r,u=c::r∧¬c.1=124∧¬c.1=40∧¬c.1=91∧Sc k r) ∨
   (∃c v d r,u=c::(v++d::r)∧(c.1=40∨c.1=91)∧brk d.1 = -1∧Bal v∧Sc k r)
theorem Sc.append:∀(k m:Nat) (u v:List Tok),Sc k u→Sc m v→Sc (k+m) (u++v):=by
 intro k
 induction k with
 | zero=>intro m u v h h2;simp only [Sc] at h;subst h;simpa using h2
 | succ k ih =>
  intro m u v h h2
  rw [Nat.succ_add]
  rcases h with ⟨c,r,e,h3,h4,h5,h6⟩ | ⟨c,w,d,r,e,h3,h4,h5,h6⟩
  ·exact Or.inl ⟨c,r++v,by rw [e];rfl,h3,h4,h5,ih m r v h6 h2⟩
  ·exact Or.inr ⟨c,w,d,r++v,by rw [e];simp,h3,h4,h5,ih m r v h6 h2⟩
def ScE (u:List Tok):Prop:=∃k,Sc k u
theorem ScE.nil:ScE []:=⟨0,rfl⟩
theorem ScE.append {u v:List Tok} (h:ScE u) (h2:ScE v):ScE (u++v):=by
 obtain ⟨k,h⟩:=h
 obtain ⟨m,h2⟩:=h2
 exact ⟨k+m,Sc.append k m u v h h2⟩
theorem ScE.one {c:Tok} (h1:¬c.1=124) (h2:¬c.1=40) (h3:¬c.1=91):ScE [c]:=⟨1,Or.inl ⟨c,[],rfl,h1,h2,h3,rfl⟩⟩
theorem ScE.cons {c:Tok} {u:List Tok} (h1:¬c.1=124) (h2:¬c.1=40) (h3:¬c.1=91) (h:ScE u):ScE (c::u):=ScE.append (ScE.one h1 h2 h3) h
def TmC (c:Int):Prop:=isDigitB c=true∨isNameB c=true∨isFieldB c=true
theorem TmC.range {c:Int} (h:TmC c):(48≤c∧c≤57)∨(65≤c∧c≤90)∨c=116∨(120≤c∧c≤122):=by
 unfold TmC isDigitB isNameB isFieldB at h
 simp at h
 omega
theorem isName_iff (c:Int):isNameB c=true↔(65≤c∧c≤90):=by simp [isNameB]
section
variable {α:Type} {ya:α→List Tok→Prop}
end
structure Pt where
 op:Int
 left:Int
 right:Int
 low:Int
 high:Int
 step:Int
section
variable {α:Type} (pp:α→Nat→Nat→List Pt) (ss:α→List St)
def repP (x:α×Rep) (k m:Nat):List Pt :=
 match x.2 with
 | none=>pp x.1 k m
 | some (lo,hi)=>pp x.1 k m++[⟨3,(k:Int)+(pp x.1 k m).length - 1,0,lo,hi,0⟩]
def seqS:α×Rep→List (α×Rep)→List St
 | x,[]=>ss x.1
 | x,y::ys=>ss x.1++seqS y ys
def seqP:α×Rep→List (α×Rep)→Nat→Nat→List Pt
 | x,[],k,m=>repP pp x k m
 | x,y::ys,k,m =>
  let a:=repP pp x k m
  let b:=seqP y ys (k+a.length) (m+(ss x.1).length)
  a++(b++[⟨1,(k:Int)+a.length - 1,(k:Int)+a.length+b.length - 1,0,0,0⟩])
def altS:SeqOf α→List (SeqOf α)→List St
 | s,[]=>seqS ss s.1 s.2
 | s,t::ts=>seqS ss s.1 s.2++altS t ts
def altP:SeqOf α→List (SeqOf α)→Nat→Nat→List Pt
 | s,[],k,m=>seqP pp ss s.1 s.2 k m
 | s,t::ts,k,m =>
  let a:=seqP pp ss s.1 s.2 k m
  let b:=altP t ts (k+a.length) (m+(seqS ss s.1 s.2).length)
  a++(b++[⟨2,(k:Int)+a.length - 1,(k:Int)+a.length+b.length - 1,0,0,0⟩])
end
def atomS:(n:Nat)→Atom n→List St
 | 0,s=>[s]
 | _+1,.inl s=>[s]
 | n+1,.inr t=>altS (atomS n) t.1 t.2
def atomP:(n:Nat)→Atom n→Nat→Nat→List Pt
 | 0,_,_,m=>[⟨0,0,0,0,0,m⟩]
 | _+1,.inl _,_,m=>[⟨0,0,0,0,0,m⟩]
 | n+1,.inr t,k,m=>altP (atomP n) (atomS n) t.1 t.2 k m
end
def ValidIs (l:List In) (e a:Int):Prop :=
 (1000<l.length∧e=5∧a=0)∨(l.length≤1000∧(l=[]∨firstNone l<l.length)∧e=7∧a=firstNone l) ∨
 (l.length≤1000∧¬l=[]∧firstNone l=l.length∧∃k:Nat,RndFrom l 0 k∧k<l.length∧e=8∧a=k) ∨
 (l.length≤1000∧¬l=[]∧firstNone l=l.length∧RndFrom l 0 l.length∧e=0∧a=0)
theorem ValidIs.uniq {l:List In} {e a f b:Int} (h:ValidIs l e a) (h':ValidIs l f b):e=f∧a=b:=by
 rcases h with ⟨h1,h2,h3⟩ | ⟨h1,h2,h3,h4⟩ | ⟨h1,h2,h3,k,h4,h5,h6,h7⟩ | ⟨h1,h2,h3,h4,h5,h6⟩ <;>
 rcases h' with ⟨g1,g2,g3⟩ | ⟨g1,g2,g3,g4⟩ | ⟨g1,g2,g3,k',g4,g5,g6,g7⟩ | ⟨g1,g2,g3,g4,g5,g6⟩ <;>
 (try omega)
 ·rcases h2 with h2|h2
  ·exact absurd h2 g2
  ·omega
 ·rcases h2 with h2|h2
  ·exact absurd h2 g2
  ·omega
 ·rcases g2 with g2|g2
  ·exact absurd g2 h2
  ·omega
 ·have:=h4.uniq g4;omega
 ·have:=h4.uniq g4;omega
 ·rcases g2 with g2|g2
  ·exact absurd g2 h2
  ·omega
 ·have:=h4.uniq g4;omega
theorem RndFrom.step {l:List In} {i k:Nat} (h:RndFrom l (i+1) k) (hi:¬Rch l false i i):RndFrom l i k:=by
 obtain ⟨a1,a2,a3,a4⟩:=h
 refine ⟨by omega,a2,?_,a4⟩
 intro j hj hk
 by_cases e:j=i
 ·subst e;exact hi
 ·exact a3 j (by omega) hk
theorem rnd_from {l:List In} {i:Nat} (h:∀j,j<i→¬Rch l false j j) (hi:i<l.length) (hr:Rch l false i i):RndFrom l 0 i:=⟨by omega,by omega,fun j _ hj=>h j hj,fun _=>hr⟩
theorem rnd_none {l:List In} (h:∀j,j<l.length→¬Rch l false j j):RndFrom l 0 l.length:=⟨by omega,by omega,fun j _ hj=>h j hj,fun h=>absurd h (by omega)⟩
theorem drop_cons {l:List In} {i:Nat} {x:In} (h:l[i]? = some x):l.drop i=x::l.drop (i+1):=by
 obtain ⟨h1,h2⟩:=List.getElem?_eq_some_iff.1 h
 rw [List.drop_eq_getElem_cons h1,h2]
section
def Frm (l:List In) (i:Nat):Prop:=i=0∨Rch l true 0 i
def ToE (l:List In) (i:Nat):Prop:=∃(k:Nat) (x:In),l[k]? = some x∧x.op=6∧(k=i∨Rch l true i k)
structure KeepIs (l:List In) (ks:List Bool):Prop where
 len:ks.length=l.length
 on:∀i,i<l.length→(ks[i]? = some true↔Frm l i∧ToE l i)
theorem KeepIs.uniq {l:List In} {ks ks':List Bool} (h:KeepIs l ks) (h':KeepIs l ks'):ks=ks':=by
 apply List.ext_getElem?
 intro i
 by_cases hi:i<l.length
 ·have e:ks[i]? = some true↔ks'[i]? = some true:=(h.on i hi).trans (h'.on i hi).symm
  have h1:i<ks.length:=by rw [h.len];exact hi
  have h2:i<ks'.length:=by rw [h'.len];exact hi
  rw [List.getElem?_eq_getElem h1,List.getElem?_eq_getElem h2] at e ⊢
  simp only [Option.some.injEq] at e ⊢
  exact Bool.eq_iff_iff.2 e
 ·rw [List.getElem?_eq_none (by rw [h.len];omega),List.getElem?_eq_none (by rw [h'.len];omega)]
open Classical in
def cntTo (ks:List Bool):Nat→Nat
 | 0=>0
 | i+1=>cntTo ks i+(if ks[i]? = some true then 1 else 0)
def numTo (ks:List Bool):Nat→List Int
 | 0=>[]
 | i+1=>numTo ks i++[if ks[i]? = some true then (cntTo ks i:Int) else -1]
def nowAt (now:List Int) (a:Int):Int:=(now[a.toNat]?).getD (-1)
def trimI (now:List Int) (x:In):In :=
 if x.op=4 then ⟨4,nowAt now x.a,0,tst0⟩
 else if x.op=5 then (if nowAt now x.a = -1 then ⟨4,nowAt now x.b,0,tst0⟩ else if nowAt now x.b = -1 then ⟨4,nowAt now x.a,0,tst0⟩ else ⟨5,nowAt now x.a,nowAt now x.b,tst0⟩)
 else x
def trimTo (now:List Int) (ks:List Bool) (l:List In):Nat→List In
 | 0=>[]
 | i+1=>trimTo now ks l i++(if ks[i]? = some true then ((l[i]?).map (trimI now)).toList else [])
def TrimIs (l:List In) (f:Int) (out:List In):Prop :=
 ∃e a,ValidIs l e a∧((¬e=0∧f=e∧out=[])∨(e=0∧∃ks,KeepIs l ks ∧
  ((¬ks[0]? = some true∧f=9∧out=[])∨(ks[0]? = some true∧f=0∧out=trimTo (numTo ks l.length) ks l l.length))))
theorem TrimIs.uniq {l:List In} {f f':Int} {o o':List In} (h:TrimIs l f o) (h':TrimIs l f' o'):f=f'∧o=o':=by
 obtain ⟨e,a,hv,h⟩:=h
 obtain ⟨e',a',hv',h'⟩:=h'
 obtain ⟨rfl,rfl⟩:=hv.uniq hv'
 rcases h with ⟨h1,h2,h3⟩ | ⟨h1,ks,hk,h⟩ <;> rcases h' with ⟨g1,g2,g3⟩ | ⟨g1,ks',hk',h'⟩
 ·exact ⟨by omega,by rw [h3,g3]⟩
 ·omega
 ·omega
 ·have:=hk.uniq hk'
  subst this
  rcases h with ⟨h2,h3,h4⟩ | ⟨h2,h3,h4⟩ <;> rcases h' with ⟨g2,g3,g4⟩ | ⟨g2,g3,g4⟩
  ·exact ⟨by omega,by rw [h4,g4]⟩
  ·exact absurd g2 h2
  ·exact absurd h2 g2
  ·exact ⟨by omega,by rw [h4,g4]⟩
theorem ValidIs.all {l:List In} {a:Int} (h:ValidIs l 0 a):l.length≤1000∧¬l=[]∧AllIns l:=by
 rcases h with ⟨_,h,_⟩ | ⟨_,_,h,_⟩ | ⟨_,_,_,k,_,_,h,_⟩ | ⟨h1,h2,h3,_⟩
 ·omega
 ·omega
 ·omega
 ·exact ⟨h1,h2,allIns_of h3⟩
theorem tst0_of {t:Tst} (h:tst0B t=true):t=tst0:=by
 obtain ⟨⟨a,b,c⟩,d,⟨e,f,g⟩,i,⟨j,k,m⟩⟩:=t
 simp only [tst0B,tm0B,Bool.and_eq_true,decide_eq_true_eq] at h
 obtain ⟨⟨⟨⟨⟨⟨h1,h2⟩,h3⟩,h4⟩,⟨h5,h6⟩,h7⟩,h8⟩,⟨h9,h10⟩,h11⟩:=h
 subst h1 h2 h3 h4 h5 h6 h7 h8 h9 h10 h11
 rfl
theorem ins_jump {l:List In} (hA:AllIns l) {i:Nat} {x:In} (hx:l[i]? = some x) (h:x.op=4):0≤x.a∧x.a<l.length∧x.b=0∧x.test=tst0:=by
 have h1:=(hA i x hx).1
 simp only [insIsB,hiOf,h,Bool.and_eq_true,Bool.or_eq_true,decide_eq_true_eq] at h1
 obtain ⟨⟨⟨⟨⟨⟨a1,a2⟩,a3⟩,a4⟩,a5⟩,a6⟩,a7⟩:=h1
 simp at a4 a6 a7
 exact ⟨a3,a4,by omega,tst0_of a7⟩
theorem ins_split {l:List In} (hA:AllIns l) {i:Nat} {x:In} (hx:l[i]? = some x) (h:x.op=5):0≤x.a∧x.a<l.length∧0≤x.b∧x.b<l.length∧x.test=tst0:=by
 have h1:=(hA i x hx).1
 simp only [insIsB,hiOf,h,Bool.and_eq_true,Bool.or_eq_true,decide_eq_true_eq] at h1
 obtain ⟨⟨⟨⟨⟨⟨a1,a2⟩,a3⟩,a4⟩,a5⟩,a6⟩,a7⟩:=h1
 simp at a4 a6 a7
 exact ⟨a3,a4,a5,a6,tst0_of a7⟩
theorem rch_step {l:List In} {t:Bool} {i j k:Nat} (he:Edge l t i j) (h:Rch l t j k):Rch l t i k:=by
 refine h.closed (S:=fun k=>Rch l t i k) ?_ ?_
 ·intro m hm;exact (Rch.one he).more hm
 ·intro x m hx hm;exact hx.more hm
theorem ToE.step {l:List In} {i j:Nat} (he:Edge l true i j) (h:ToE l j):ToE l i:=by
 obtain ⟨k,x,h1,h2,h3⟩:=h
 refine ⟨k,x,h1,h2,Or.inr ?_⟩
 rcases h3 with h3|h3
 ·subst h3;exact Rch.one he
 ·exact rch_step he h3
theorem Frm.step {l:List In} {i j:Nat} (h:Frm l i) (he:Edge l true i j):Frm l j:=by
 rcases h with h|h
 ·subst h;exact Or.inr (Rch.one he)
 ·exact Or.inr (h.more he)
theorem ToE.closed {l:List In} {S:Nat→Prop} (h1:∀k x,l[k]? = some x→x.op=6→S k) (h2:∀x j,Edge l true x j→S j→S x) {i:Nat} (h:ToE l i):S i:=by
 obtain ⟨k,x,hx,h6,h3⟩:=h
 have hk:=h1 k x hx h6
 rcases h3 with h3|h3
 ·subst h3;exact hk
 ·refine Classical.byContradiction fun hn => ?_
  exact h3.closed (S:=fun j=>¬S j) (fun j hj hs=>hn (h2 i j hj hs)) (fun x j hx hj hs=>hx (h2 x j hj hs)) hk
def nx1 (x:In) (i:Nat):Int:=if x.op=4 then x.a else if x.op=5 then x.a else if x.op=6 then -1 else i+1
def nx2 (x:In) (i:Nat):Int:=if x.op=4 then x.a else if x.op=5 then x.b else if x.op=6 then -1 else i+1
theorem nx_spec {l:List In} (hA:AllIns l) {i:Nat} {x:In} (hx:l[i]? = some x) :
  (x.op=6∧nx1 x i = -1∧nx2 x i = -1∧nxt x i=[])∨(¬x.op=6∧∃j1 j2:Nat,nx1 x i=j1∧nx2 x i=j2∧j1<l.length∧j2<l.length∧∀j,j∈nxt x i↔j=j1∨j=j2):=by
 have hlt:=nxt_lt hA hx
 by_cases h6:x.op=6
 ·exact Or.inl ⟨h6,by simp [nx1,h6],by simp [nx2,h6],by simp [nxt,h6]⟩
 ·refine Or.inr ⟨h6,?_⟩
  by_cases h4:x.op=4
  ·have:=ins_jump hA hx h4
   refine ⟨x.a.toNat,x.a.toNat,?_,?_,by omega,by omega,?_⟩
   ·simp [nx1,h4];omega
   ·simp [nx2,h4];omega
   ·simp [nxt,h4]
  ·by_cases h5:x.op=5
   ·have:=ins_split hA hx h5
    refine ⟨x.a.toNat,x.b.toNat,?_,?_,by omega,by omega,?_⟩
    ·simp [nx1,h5];omega
    ·simp [nx2,h5];omega
    ·simp [nxt,h5]
   ·have e:nxt x i=[i+1]:=by simp [nxt,h4,h5,h6]
    rw [e] at hlt
    refine ⟨i+1,i+1,?_,?_,hlt _ (by simp),hlt _ (by simp),?_⟩
    ·simp [nx1,h4,h5,h6]
    ·simp [nx2,h4,h5,h6]
    ·rw [e];simp
def mkB (bs:List Bool) (z:Int):List Bool:=if 0≤z∧bs[z.toNat]? = some false then bs.set z.toNat true else bs
def mkQ (bs:List Bool) (q:List Nat) (z:Int):List Nat:=if 0≤z∧bs[z.toNat]? = some false then q++[z.toNat] else q
theorem mkB_neg (bs:List Bool):mkB bs (-1)=bs:=by simp [mkB]
theorem mkQ_neg (bs:List Bool) (q:List Nat):mkQ bs q (-1)=q:=by simp [mkQ]
theorem mkB_len (bs:List Bool) (z:Int):(mkB bs z).length=bs.length:=by unfold mkB;split <;> simp
theorem mk_cnt (bs:List Bool) (q:List Nat) (z:Int):(mkQ bs q z).length+(mkB bs z).count false=q.length+bs.count false:=by
 unfold mkB mkQ
 split
 ·rename_i h
  have:=count_set h.2
  simp;omega
 ·rfl
theorem Leav.mk1 {l:List In} {t:Bool} {i:Nat} {bs:List Bool} {done:Nat→Prop} {q:List Nat} {x j:Nat} {ys:List Nat} (h:Leav l t i bs done q x ys) (he:Edge l t x j) (hj:j<l.length):Leav l t i (mkB bs j) done (mkQ bs q j) x (ys++[j]):=by
 unfold mkB mkQ
 split
 ·simpa using h.mark he hj
 ·rename_i hn
  have hl:=h.len
  have:bs[j]? = some true:=by
   rw [List.getElem?_eq_getElem (by omega)] at hn ⊢
   simp at hn
   simp [hn]
  exact h.skip this
theorem Leav.both {l:List In} {t:Bool} {i:Nat} {bs:List Bool} {done:Nat→Prop} {q:List Nat} {x:Nat} {v:In} (h:Leav l t i bs done q x []) (hA:AllIns l) (hv:l[x]? = some v) (h0:v.op=0→t=true) :
  Srch l t i (mkB (mkB bs (nx1 v x)) (nx2 v x)) (fun y=>done y∨y=x) (mkQ (mkB bs (nx1 v x)) (mkQ bs q (nx1 v x)) (nx2 v x)):=by
 rcases nx_spec hA hv with ⟨h6,e1,e2,e3⟩ | ⟨h6,j1,j2,e1,e2,l1,l2,e3⟩
 ·rw [e1,e2,mkB_neg,mkB_neg,mkQ_neg,mkQ_neg]
  refine h.left (fun j hj => ?_)
  rw [edge_of hv h0,e3] at hj
  exact hj
 ·rw [e1,e2]
  have k1:=h.mk1 ((edge_of hv h0).2 ((e3 j1).2 (Or.inl rfl))) l1
  have k2:=k1.mk1 ((edge_of hv h0).2 ((e3 j2).2 (Or.inr rfl))) l2
  refine k2.left (fun j hj => ?_)
  rw [edge_of hv h0,e3] at hj
  simpa using hj
structure Srch2 (l:List In) (bs:List Bool) (done:Nat→Prop) (q:List Nat):Prop where
 len:bs.length=l.length
 zero:bs[0]? = some true
 sound:∀j:Nat,bs[j]? = some true→Frm l j
 seen:∀x∈q,bs[x]? = some true
 all:∀j:Nat,bs[j]? = some true→done j∨j∈q
 out:∀x j,done x→Edge l true x j→bs[j]? = some true
theorem Srch2.start {l:List In} (h:0<l.length):Srch2 l ((List.replicate l.length false).set 0 true) (fun _=>False) [0] where
 len:=by simp
 zero:=by rw [List.getElem?_set_self (by simpa using h)]
 sound:=by
  intro j hj
  by_cases e:j=0
  ·exact Or.inl e
  ·rw [List.getElem?_set_ne (by omega)] at hj
   simp [List.getElem?_replicate] at hj
 seen:=by
  intro x hx
  simp at hx;subst hx
  rw [List.getElem?_set_self (by simpa using h)]
 all:=by
  intro j hj
  by_cases e:j=0
  ·exact Or.inr (by simp [e])
  ·rw [List.getElem?_set_ne (by omega)] at hj
   simp [List.getElem?_replicate] at hj
 out:=fun _ _ h=>False.elim h
theorem Srch2.over {l:List In} {bs:List Bool} {done:Nat→Prop} (h:Srch2 l bs done []) (j:Nat):bs[j]? = some true↔Frm l j:=by
 refine ⟨h.sound j,fun hf => ?_⟩
 have hst:∀x j,bs[x]? = some true→Edge l true x j→bs[j]? = some true:=by
  intro x j hx he
  rcases h.all x hx with hd|hd
  ·exact h.out x j hd he
  ·simp at hd
 rcases hf with hf|hf
 ·subst hf;exact h.zero
 ·exact hf.closed (S:=fun j=>bs[j]? = some true) (fun j hj=>hst 0 j h.zero hj) hst
structure Lv2 (l:List In) (bs:List Bool) (done:Nat→Prop) (q:List Nat) (x:Nat) (ys:List Nat):Prop where
 len:bs.length=l.length
 zero:bs[0]? = some true
 sound:∀j:Nat,bs[j]? = some true→Frm l j
 here:bs[x]? = some true
 seen:∀x∈q,bs[x]? = some true
 all:∀j:Nat,bs[j]? = some true→done j∨j∈q∨j=x
 out:∀x j,done x→Edge l true x j→bs[j]? = some true
 got:∀j∈ys,bs[j]? = some true
theorem Srch2.leave {l:List In} {bs:List Bool} {done:Nat→Prop} {q:List Nat} {x:Nat} (h:Srch2 l bs done (q++[x])):Lv2 l bs done q x [] where
 len:=h.len
 zero:=h.zero
 sound:=h.sound
 here:=h.seen x (by simp)
 seen:=fun y hy=>h.seen y (by simp [hy])
 all:=by
  intro j hj
  rcases h.all j hj with h1|h1
  ·exact Or.inl h1
  ·simp at h1;exact Or.inr h1
 out:=h.out
 got:=by simp
theorem Lv2.mk1 {l:List In} {bs:List Bool} {done:Nat→Prop} {q:List Nat} {x j:Nat} {ys:List Nat} (h:Lv2 l bs done q x ys) (he:Edge l true x j) (hj:j<l.length):Lv2 l (mkB bs j) done (mkQ bs q j) x (ys++[j]):=by
 have hl:=h.len
 unfold mkB mkQ
 split
 ·simp only [Int.toNat_natCast]
  refine ⟨by simp [hl],get_set_true h.zero,?_,get_set_true h.here,?_,?_,fun y k hy hk=>get_set_true (h.out y k hy hk),?_⟩
  ·intro k hk
   by_cases e:k=j
   ·subst e;exact (h.sound x h.here).step he
   ·rw [List.getElem?_set_ne (by omega)] at hk
    exact h.sound k hk
  ·intro y hy
   rcases List.mem_append.1 hy with hy|hy
   ·exact get_set_true (h.seen y hy)
   ·simp at hy;subst hy
    rw [List.getElem?_set_self (by omega)]
  ·intro k hk
   by_cases e:k=j
   ·subst e;exact Or.inr (Or.inl (by simp))
   ·rw [List.getElem?_set_ne (by omega)] at hk
    rcases h.all k hk with h1|h1|h1
    ·exact Or.inl h1
    ·exact Or.inr (Or.inl (by simp [h1]))
    ·exact Or.inr (Or.inr h1)
  ·intro k hk
   rcases List.mem_append.1 hk with hk|hk
   ·exact get_set_true (h.got k hk)
   ·simp at hk;subst hk
    rw [List.getElem?_set_self (by omega)]
 ·rename_i hn
  have hb:bs[j]? = some true:=by
   rw [List.getElem?_eq_getElem (by omega)] at hn ⊢
   simp at hn
   simp [hn]
  refine ⟨h.len,h.zero,h.sound,h.here,h.seen,h.all,h.out,fun k hk => ?_⟩
  rcases List.mem_append.1 hk with hk|hk
  ·exact h.got k hk
  ·simp at hk;subst hk;exact hb
theorem Lv2.left {l:List In} {bs:List Bool} {done:Nat→Prop} {q:List Nat} {x:Nat} {ys:List Nat} (h:Lv2 l bs done q x ys) (hy:∀j,Edge l true x j→j∈ys):Srch2 l bs (fun y=>done y∨y=x) q where
 len:=h.len
 zero:=h.zero
 sound:=h.sound
 seen:=h.seen
 all:=by
  intro j hj
  rcases h.all j hj with h1|h1|h1
  ·exact Or.inl (Or.inl h1)
  ·exact Or.inr h1
  ·exact Or.inl (Or.inr h1)
 out:=by
  intro y j hy' hj
  rcases hy' with h1|h1
  ·exact h.out y j h1 hj
  ·subst h1;exact h.got j (hy j hj)
theorem Srch2.both {l:List In} {bs:List Bool} {done:Nat→Prop} {q:List Nat} {x:Nat} {v:In} (h:Srch2 l bs done (q++[x])) (hA:AllIns l) (hv:l[x]? = some v) :
  Srch2 l (mkB (mkB bs (nx1 v x)) (nx2 v x)) (fun y=>done y∨y=x) (mkQ (mkB bs (nx1 v x)) (mkQ bs q (nx1 v x)) (nx2 v x)):=by
 have h1:=h.leave
 rcases nx_spec hA hv with ⟨h6,e1,e2,e3⟩ | ⟨h6,j1,j2,e1,e2,l1,l2,e3⟩
 ·rw [e1,e2,mkB_neg,mkB_neg,mkQ_neg,mkQ_neg]
  refine h1.left (fun j hj => ?_)
  rw [edge_of hv (fun _=>rfl),e3] at hj
  exact hj
 ·rw [e1,e2]
  have k1:=h1.mk1 ((edge_of hv (fun _=>rfl)).2 ((e3 j1).2 (Or.inl rfl))) l1
  have k2:=k1.mk1 ((edge_of hv (fun _=>rfl)).2 ((e3 j2).2 (Or.inr rfl))) l2
  refine k2.left (fun j hj => ?_)
  rw [edge_of hv (fun _=>rfl),e3] at hj
  simpa using hj
end
end Go.Proofs.YtcboiapggnmpfaaGreat
