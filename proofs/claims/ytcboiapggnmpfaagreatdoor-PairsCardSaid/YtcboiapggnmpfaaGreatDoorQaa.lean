
namespace Go.Proofs.YtcboiapggnmpfaaGreatDoor
theorem sA {α:Type _}(l:List α)(i:Nat)(a:α):l.toArray.setIfInBounds i a=(l.set i a).toArray:=List.setIfInBounds_toArray ..
theorem sZ {α:Type _}(a b:α)(l:List α):(a::l).set 0 b=b::l:=rfl
theorem sS {α:Type _}(a b:α)(l:List α)(n:Nat):(a::l).set (n+1) b=a::l.set n b:=rfl
def isDigitB (c:Int):Bool:=decide (48≤c)&&decide (c≤57)
def isKindB (c:Int):Bool:=c == 46||(decide (97≤c)&&decide (c≤100))
def isNameB (c:Int):Bool:=decide (65≤c)&&decide (c≤90)
def isFieldB (c:Int):Bool:=c == 116||(decide (120≤c)&&decide (c≤122))
def isRelB (c:Int):Bool:=c == 60||c == 62||c == 61||c == 35
structure Fm where
 st:Int
 op:Int
 dg:Int
 tm:Int
 lw:Int
def freshF (f:Fm) (c:Int):Option Fm :=
 if isKindB c=true then some { f with st:=1 } else
 if c=40∧f.op<8 then some { f with op:=f.op+1,st:=0 } else none
def behindF (f:Fm) (c:Int):Option Fm :=
 if c=124 then some { f with st:=0 } else
 if c=41∧0<f.op then some { f with op:=f.op - 1,st:=3 } else
 if c=64∧f.op=0 then some { f with st:=12,dg:=0 } else freshF f c
def wholeF (f:Fm) (c:Int):Option Fm :=
 if c=42∨c=43∨c=63 then some { f with st:=4 } else
 if c=123 then some { f with st:=5 } else behindF f c
def testedF (f:Fm) (c:Int):Option Fm :=
 if f.tm=0∧isRelB c=true then some { f with tm:=1,st:=8 } else
 if f.tm=1∧(c=43∨c=45∨c=42) then some { f with tm:=2,st:=8 } else
 if 0<f.tm∧c=38 then some { f with tm:=0,st:=8 } else
 if 0<f.tm∧c=93 then some { f with st:=3 } else none
def termedF (f:Fm) (c:Int):Option Fm :=
 if f.st=8∧isDigitB c=true then some { f with st:=10,dg:=1 } else
 if f.st=8∧isNameB c=true then some { f with st:=9 } else
 if ¬f.st=10∧isFieldB c=true then some { f with st:=11 } else
 if f.st=10∧isDigitB c=true then (if f.dg+1≤18 then some { f with dg:=f.dg+1 } else none) else
 if f.st=10 then testedF f c else none
def bracedF (f:Fm) (c:Int):Option Fm :=
 if f.st=5∧isDigitB c=true then some { f with lw:=c - 48,st:=6 } else
 if f.st=6∧isDigitB c=true∧48<c∧f.lw≤c - 48 then some { f with st:=7 } else
 if f.st=7∧c=125 then some { f with st:=4 } else none
def nextF (f : Fm) (c : Int) : Option Fm :=
  if f.st = 0 then freshF f c else
  if f.st = 1 ∨ f.st = 2 then
    (if f.st = 1 ∧ isNameB c = true then some { f with st := 2 } else
     if c = 91 then some { f with st := 8, tm := 0 } else wholeF f c) else
  if f.st = 3 then wholeF f c else
  if f.st = 4 then behindF f c else
  if f.st = 5 ∨ f.st = 6 ∨ f.st = 7 then bracedF f c else
  if f.st = 11 then testedF f c else
  if f.st = 12 ∨ f.st = 13 then
    (if isDigitB c = true ∧ f.dg + 1 ≤ 18 then some { f with st := 13, dg := f.dg + 1 } else none) else
  termedF f c
def overF (f:Fm):Bool :=
 (f.st == 1||f.st == 2||f.st == 3||f.st == 4)&&f.op == 0||f.st == 13
theorem isDigit_bounds {c:Int} (h:isDigitB c=true):48≤c∧c≤57:=by
 simpa [isDigitB] using h
section
abbrev Tok:=Int×Nat
def toks:Nat→List Int→List Tok
 | _,[]=>[]
 | i,c::r=>if c=32 then toks (i+1) r else (c,i)::toks (i+1) r
structure Tm where
 of:Int
 field:Int
 num:Int
structure Tst where
 left:Tm
 rel:Int
 right:Tm
 arith:Int
 more:Tm
structure St where
 kind:Int
 name:Int
 pos:Nat
 tests:List Tst
def tm0:Tm:=⟨0,0,0⟩
def tst0:Tst:=⟨tm0,0,tm0,0,tm0⟩
def kindV (c:Int):Int:=if c=46 then 4 else c - 97
def fieldV (c:Int):Int:=if c=120 then 1 else if c=121 then 2 else if c=122 then 3 else 0
def relV (c:Int):Int:=if c=62 then 1 else if c=61 then 2 else if c=35 then 3 else 0
def arithV (c:Int):Int:=if c=43 then 1 else if c=45 then 2 else if c=42 then 3 else 0
def isArithB (c:Int):Bool:=c == 43||c == 45||c == 42
def pNum:Int→Nat→List Tok→Option Int×List Tok
 | acc,k,[]=>(if k=0 then none else some acc,[])
 | acc,k,(c,p)::r =>
  if isDigitB c=true then
   (if k=18 then (none,(c,p)::r) else pNum (10*acc+(c - 48)) (k+1) r)
  else (if k=0 then none else some acc,(c,p)::r)
def pField (of:Int):List Tok→Option Tm×List Tok
 | []=>(none,[])
 | (c,p)::r=>if isFieldB c=true then (some ⟨of,fieldV c,0⟩,r) else (none,(c,p)::r)
def pTerm:List Tok→Option Tm×List Tok
 | []=>(none,[])
 | (c,p)::r =>
  if isDigitB c=true then
   (match pNum 0 0 ((c,p)::r) with
   | (some v,x)=>(some ⟨0,0,v⟩,x)
   | (none,x)=>(none,x))
  else if isNameB c=true then pField (2+(c - 65)) r else pField 1 ((c,p)::r)
def pTail (a:Tm) (c:Int) (b:Tm):List Tok→Option Tst×List Tok
 | []=>(some ⟨a,relV c,b,0,tm0⟩,[])
 | (d,q)::r =>
  if isArithB d=true then
   (match pTerm r with
   | (none,x)=>(none,x)
   | (some m,x)=>(some ⟨a,relV c,b,arithV d,m⟩,x))
  else (some ⟨a,relV c,b,0,tm0⟩,(d,q)::r)
def pTest (l:List Tok):Option Tst×List Tok :=
 match pTerm l with
 | (none,r)=>(none,r)
 | (some _,[])=>(none,[])
 | (some a,(c,p)::r) =>
  if isRelB c=true then
   (match pTerm r with
   | (none,x)=>(none,x)
   | (some b,x)=>pTail a c b x)
  else (none,(c,p)::r)
def pTests:Nat→List Tok→Option (List Tst)×List Tok
 | 0,l=>(none,l)
 | n+1,l =>
  match pTest l with
  | (none,r)=>(none,r)
  | (some _,[])=>(none,[])
  | (some t,(c,p)::r) =>
   if c=38 then
    (match pTests n r with
    | (none,x)=>(none,x)
    | (some ts,x)=>(some (t::ts),x))
   else if c=93 then (some [t],r) else (none,(c,p)::r)
def pName:List Tok→Int×List Tok
 | []=>(-1,[])
 | (c,p)::r=>if isNameB c=true then (c - 65,r) else (-1,(c,p)::r)
def pBox:List Tok→Option (List Tst)×List Tok
 | []=>(some [],[])
 | (c,p)::r=>if c=91 then pTests (r.length+1) r else (some [],(c,p)::r)
def pStep:List Tok→Option St×List Tok
 | []=>(none,[])
 | (c,p)::r =>
  if isKindB c=true then
   (match pBox (pName r).2 with
   | (none,x)=>(none,x)
   | (some ts,x)=>(some ⟨kindV c,(pName r).1,p,ts⟩,x))
  else (none,(c,p)::r)
abbrev Rep:=Option (Int×Int)
def pClose (a b:Int):List Tok→Option Rep×List Tok
 | []=>(none,[])
 | (d,p)::r=>if d=125 then (some (some (a,b)),r) else (none,(d,p)::r)
def pHigh (a:Int):List Tok→Option Rep×List Tok
 | []=>(none,[])
 | (b,p)::r=>if isDigitB b=true∧48<b∧a≤b - 48 then pClose a (b - 48) r else (none,(b,p)::r)
def pLow:List Tok→Option Rep×List Tok
 | []=>(none,[])
 | (a,p)::r=>if isDigitB a=true then pHigh (a - 48) r else (none,(a,p)::r)
def pRepS:List Tok→Option Rep×List Tok
 | []=>(some none,[])
 | (c,p)::r =>
  if c=42 then (some (some (0,-1)),r) else
  if c=43 then (some (some (1,-1)),r) else
  if c=63 then (some (some (0,1)),r) else
  if c=123 then pLow r else (some none,(c,p)::r)
section
variable {α:Type} (pa:List Tok→Option α×List Tok)
def pRep (l:List Tok):Option (α×Rep)×List Tok :=
 match pa l with
 | (none,r)=>(none,r)
 | (some a,r) =>
  match pRepS r with
  | (none,x)=>(none,x)
  | (some q,x)=>(some (a,q),x)
def pMore:Nat→List Tok→Option (List (α×Rep))×List Tok
 | 0,l=>(some [],l)
 | _+1,[]=>(some [],[])
 | n+1,(c,p)::r =>
  if c=40∨isKindB c=true then
   (match pRep pa ((c,p)::r) with
   | (none,x)=>(none,x)
   | (some a,x) =>
    match pMore n x with
    | (none,y)=>(none,y)
    | (some as0,y)=>(some (a::as0),y))
  else (some [],(c,p)::r)
abbrev SeqOf (α:Type):=(α×Rep)×List (α×Rep)
abbrev AltOf (α:Type):=SeqOf α×List (SeqOf α)
def pSeq (l:List Tok):Option (SeqOf α)×List Tok :=
 match pRep pa l with
 | (none,r)=>(none,r)
 | (some a,r) =>
  match pMore pa r.length r with
  | (none,x)=>(none,x)
  | (some as0,x)=>(some (a,as0),x)
def pAlts:Nat→List Tok→Option (List (SeqOf α))×List Tok
 | 0,l=>(some [],l)
 | _+1,[]=>(some [],[])
 | n+1,(c,p)::r =>
  if c=124 then
   (match pSeq pa r with
   | (none,x)=>(none,x)
   | (some a,x) =>
    match pAlts n x with
    | (none,y)=>(none,y)
    | (some as0,y)=>(some (a::as0),y))
  else (some [],(c,p)::r)
def pAlt (l:List Tok):Option (AltOf α)×List Tok :=
 match pSeq pa l with
 | (none,r)=>(none,r)
 | (some a,r) =>
  match pAlts pa r.length r with
  | (none,x)=>(none,x)
  | (some as0,x)=>(some (a,as0),x)
def pTopOf (l:List Tok):Option (AltOf α×Option Int)×List Tok :=
 match pAlt pa l with
 | (none,x)=>(none,x)
 | (some t,[])=>(some (t,none),[])
 | (some t,(c,p)::r) =>
  if c=64 then
   (match pNum 0 0 r with
   | (none,x)=>(none,x)
   | (some v,[])=>(some (t,some v),[])
   | (some _,x::y)=>(none,x::y))
  else (none,(c,p)::r)
end
def Atom:Nat→Type
 | 0=>St
 | n+1=>St ⊕ AltOf (Atom n)
def pAtom:(n:Nat)→List Tok→Option (Atom n)×List Tok
 | 0,l=>pStep l
 | _+1,[]=>(none,[])
 | n+1,(c,p)::r =>
  if c=40 then
   (match pAlt (pAtom n) r with
   | (none,x)=>(none,x)
   | (some _,[])=>(none,[])
   | (some t,(d,q)::y)=>if d=41 then (some (.inr t),y) else (none,(d,q)::y))
  else
   (match pStep ((c,p)::r) with
   | (none,x)=>(none,x)
   | (some s,x)=>(some (.inl s),x))
end
section
def runF:Fm→List Tok→Option Fm
 | f,[]=>some f
 | f,(c,_)::r =>
  match nextF f c with
  | none=>none
  | some g=>runF g r
theorem runF_append {f g:Fm} {u v:List Tok} (h:runF f u=some g):runF f (u++v)=runF g v:=by
 induction u generalizing f with
 | nil=>simp [runF] at h;subst h;rfl
 | cons t u ih =>
  obtain ⟨c,p⟩:=t
  simp only [runF,List.cons_append] at h ⊢
  cases e:nextF f c with
  | none=>simp [e] at h
  | some k=>simp only [e] at h ⊢;exact ih h
def bad (f:Fm):List Tok→Prop
 | []=>overF f=false
 | (c,_)::_=>nextF f c=none
def Goes {α:Type} (r:Option α×List Tok) (l:List Tok) (f:Fm) (post:Fm→List Tok→Prop):Prop :=
 ∃u g,l=u++r.2∧runF f u=some g∧(∀a,r.1=some a→post g r.2)∧(r.1=none→bad g r.2)
theorem Goes.stop {α:Type} {l:List Tok} {f:Fm} {post:Fm→List Tok→Prop} (h:bad f l):Goes ((none,l):Option α×List Tok) l f post :=
 ⟨[],f,rfl,rfl,(fun _ e=>by cases e),fun _=>h⟩
theorem Goes.here {α:Type} {a:α} {l:List Tok} {f:Fm} {post:Fm→List Tok→Prop} (h:post f l):Goes (some a,l) l f post :=
 ⟨[],f,rfl,rfl,fun _ _=>h,fun e=>by cases e⟩
theorem Goes.cons {α:Type} {r:Option α×List Tok} {c:Int} {p:Nat} {l:List Tok} {f g:Fm} {post:Fm→List Tok→Prop} (e:nextF f c=some g) (h:Goes r l g post):Goes r ((c,p)::l) f post:=by
 obtain ⟨u,k,h1,h2,h3,h4⟩:=h
 exact ⟨(c,p)::u,k,by rw [h1];rfl,by simp [runF,e,h2],h3,h4⟩
theorem Goes.andThen {α β:Type} {r:Option α×List Tok} {s:Option β×List Tok} {l:List Tok} {f:Fm} {p1 p2:Fm→List Tok→Prop}
  (h:Goes r l f p1) (hs:∀a,r.1=some a→∀g,p1 g r.2→Goes s r.2 g p2) (hn:r.1=none→s.1=none∧s.2=r.2):Goes s l f p2:=by
 obtain ⟨u,g,h1,h2,h3,h4⟩:=h
 cases e:r.1 with
 | none =>
  obtain ⟨e1,e2⟩:=hn e
  exact ⟨u,g,by rw [e2];exact h1,h2,(fun a ha=>by rw [e1] at ha;cases ha),fun _=>by rw [e2];exact h4 e⟩
 | some a =>
  obtain ⟨v,k,k1,k2,k3,k4⟩:=hs a e g (h3 a e)
  exact ⟨u++v,k,by rw [h1,k1,List.append_assoc],by rw [runF_append h2];exact k2,k3,k4⟩
def Termed (d:Int) (t:Int) (g:Fm):List Tok→Prop
 | []=>g.op=d∧g.tm=t∧overF g=false
 | (c,_)::_=>g.op=d∧g.tm=t∧nextF g c=testedF g c
theorem nextF_8 (f:Fm) (c:Int) (h:f.st=8):nextF f c=termedF f c:=by simp [nextF,h]
theorem nextF_9 (f:Fm) (c:Int) (h:f.st=9):nextF f c=termedF f c:=by simp [nextF,h]
theorem nextF_10 (f:Fm) (c:Int) (h:f.st=10):nextF f c=termedF f c:=by simp [nextF,h]
theorem nextF_11 (f:Fm) (c:Int) (h:f.st=11):nextF f c=testedF f c:=by simp [nextF,h]
theorem pNum_term:∀(l:List Tok) (acc:Int) (k:Nat) (f:Fm),1≤k→k≤18→f.st=10→f.dg=k→Goes (pNum acc k l) l f (fun g x=>Termed f.op f.tm g x):=by
 intro l
 induction l with
 | nil =>
  intro acc k f h1 h2 hs hd
  have hk:¬k=0:=by omega
  simp only [pNum,if_neg hk]
  exact Goes.here ⟨rfl,rfl,by simp [overF,hs]⟩
 | cons t l ih =>
  obtain ⟨c,p⟩:=t
  intro acc k f h1 h2 hs hd
  have hk:¬k=0:=by omega
  simp only [pNum]
  by_cases hc:isDigitB c=true
  ·simp only [if_pos hc]
   by_cases h18:k=18
   ·simp only [if_pos h18]
    refine Goes.stop ?_
    show nextF f c=none
    rw [nextF_10 f c hs]
    simp [termedF,hs,hc,hd,h18]
   ·simp only [if_neg h18]
    have hn:nextF f c=some { f with dg:=f.dg+1 }:=by
     rw [nextF_10 f c hs]
     have h':f.dg+1≤18:=by omega
     simp [termedF,hs,hc,h']
    exact Goes.cons hn (ih _ _ _ (by omega) (by omega) hs (by simp [hd]))
  ·simp only [if_neg hc,if_neg hk]
   refine Goes.here ⟨rfl,rfl,?_⟩
   rw [nextF_10 f c hs]
   simp [termedF,hs,hc]
theorem pField_goes (of:Int) (l:List Tok) (f:Fm) (h:f.st=9∨(f.st=8∧∀c p r,l=(c,p)::r→isDigitB c=false∧isNameB c=false)):Goes (pField of l) l f (fun g x=>Termed f.op f.tm g x):=by
 have ho:overF f=false:=by rcases h with h|⟨h,_⟩ <;> simp [overF,h]
 match l with
 | []=>exact Goes.stop ho
 | (c,p)::r =>
  have hn:nextF f c=if isFieldB c=true then some { f with st:=11 } else none:=by
   rcases h with h|⟨h,hc⟩
   ·rw [nextF_9 f c h];simp [termedF,h]
   ·obtain ⟨h1,h2⟩:=hc c p r rfl
    rw [nextF_8 f c h];simp [termedF,h,h1,h2]
  simp only [pField]
  by_cases hf:isFieldB c=true
  ·simp only [if_pos hf] at hn ⊢
   refine Goes.cons hn (Goes.here ?_)
   match r with
   | []=>exact ⟨rfl,rfl,by simp [overF]⟩
   | (d,q)::r=>exact ⟨rfl,rfl,nextF_11 _ d rfl⟩
  ·simp only [if_neg hf] at hn ⊢
   exact Goes.stop hn
theorem pTerm_goes (l:List Tok) (f:Fm) (h:f.st=8):Goes (pTerm l) l f (fun g x=>Termed f.op f.tm g x):=by
 match l with
 | []=>exact Goes.stop (by simp [bad,overF,h])
 | (c,p)::r =>
  simp only [pTerm]
  by_cases hd:isDigitB c=true
  ·simp only [if_pos hd]
   have hn:nextF f c=some { f with st:=10,dg:=1 }:=by rw [nextF_8 f c h];simp [termedF,h,hd]
   have e:pNum 0 0 ((c,p)::r)=pNum (10*0+(c - 48)) 1 r:=by simp [pNum,hd]
   rw [e]
   have g:=Goes.cons (p:=p) hn (pNum_term r (10*0+(c - 48)) 1 { f with st:=10,dg:=1 } (by omega) (by omega) rfl rfl)
   obtain ⟨u,k,h1,h2,h3,h4⟩:=g
   revert h1 h3 h4
   generalize pNum (10*0+(c - 48)) 1 r=x
   intro h1 h3 h4
   match x with
   | (some v,x)=>exact ⟨u,k,h1,h2,fun a _=>h3 v rfl,fun e=>by cases e⟩
   | (none,x)=>exact ⟨u,k,h1,h2,(fun a e=>by cases e),fun _=>h4 rfl⟩
  ·simp only [if_neg hd]
   by_cases hm:isNameB c=true
   ·simp only [if_pos hm]
    have hn:nextF f c=some { f with st:=9 }:=by rw [nextF_8 f c h];simp [termedF,h,hd,hm]
    exact Goes.cons hn (pField_goes _ r { f with st:=9 } (Or.inl rfl))
   ·simp only [if_neg hm]
    refine pField_goes _ _ f (Or.inr ⟨h,?_⟩)
    intro c' p' r' e
    cases e
    exact ⟨by simpa using hd,by simpa using hm⟩
def Tested (d:Int) (g:Fm) (x:List Tok):Prop :=
 (Termed d 1 g x∧∀c p r,x=(c,p)::r→isArithB c=false)∨Termed d 2 g x
theorem isArith_iff (c:Int):isArithB c=true↔(c=43∨c=45∨c=42):=by simp [isArithB,or_assoc]
theorem testedF_rel (g:Fm) (c:Int) (h:g.tm=0):testedF g c=if isRelB c=true then some { g with tm:=1,st:=8 } else none:=by
 simp [testedF,h]
theorem pTail_goes (a:Tm) (c:Int) (b:Tm) (l:List Tok) (d:Int) (f:Fm) (h:Termed d 1 f l):Goes (pTail a c b l) l f (fun g x=>Tested d g x):=by
 match l,h with
 | [],h=>exact Goes.here (Or.inl ⟨h,by intro c p r e;cases e⟩)
 | (e,q)::r,h =>
  obtain ⟨h1,h2,h3⟩:=h
  simp only [pTail]
  by_cases hd:isArithB e=true
  ·simp only [if_pos hd]
   have hn:nextF f e=some { f with tm:=2,st:=8 }:=by
    rw [h3];have hd':=(isArith_iff e).1 hd;simp [testedF,h2,hd']
   refine Goes.cons hn ?_
   refine Goes.andThen (pTerm_goes r { f with tm:=2,st:=8 } rfl) ?_ ?_
   ·intro m hm g hg
    revert hm hg
    generalize pTerm r=y
    obtain ⟨y1,y2⟩:=y
    intro hm hg
    simp only at hm
    subst hm
    exact Goes.here (Or.inr (by rw [←h1];exact hg))
   ·generalize pTerm r=y
    obtain ⟨y1,y2⟩:=y
    intro hm
    simp only at hm
    subst hm
    exact ⟨rfl,rfl⟩
  ·simp only [if_neg hd]
   refine Goes.here (Or.inl ⟨⟨h1,h2,h3⟩,?_⟩)
   intro c p r e;cases e;simpa using hd
theorem pTest_goes (l:List Tok) (f:Fm) (h:f.st=8) (h0:f.tm=0):Goes (pTest l) l f (fun g x=>Tested f.op g x):=by
 refine Goes.andThen (pTerm_goes l f h) ?_ ?_
 ·intro a ha g hg
  unfold pTest
  revert ha hg
  generalize pTerm l=y
  obtain ⟨y1,y2⟩:=y
  intro ha hg
  simp only at ha hg
  subst ha
  match y2,hg with
  | [],hg=>exact Goes.stop hg.2.2
  | (c,p)::r,hg =>
   obtain ⟨g1,g2,g3⟩:=hg
   rw [h0] at g2
   rw [testedF_rel g c g2] at g3
   simp only
   by_cases hr:isRelB c=true
   ·simp only [if_pos hr] at g3 ⊢
    refine Goes.cons g3 ?_
    refine Goes.andThen (pTerm_goes r { g with tm:=1,st:=8 } rfl) ?_ ?_
    ·intro b hb k hk
     revert hb hk
     generalize pTerm r=z
     obtain ⟨z1,z2⟩:=z
     intro hb hk
     simp only at hb hk
     subst hb
     exact pTail_goes a c b z2 f.op k (by rw [←g1];exact hk)
    ·generalize pTerm r=z
     obtain ⟨z1,z2⟩:=z
     intro hb
     simp only at hb
     subst hb
     exact ⟨rfl,rfl⟩
   ·simp only [if_neg hr] at g3 ⊢
    exact Goes.stop g3
 ·unfold pTest
  generalize pTerm l=y
  obtain ⟨y1,y2⟩:=y
  intro hb
  simp only at hb
  subst hb
  exact ⟨rfl,rfl⟩
theorem Goes.le {α:Type} {r:Option α×List Tok} {l:List Tok} {f:Fm} {post:Fm→List Tok→Prop} (h:Goes r l f post):r.2.length≤l.length:=by
 obtain ⟨u,g,h1,_⟩:=h
 rw [h1];simp
section
variable {α:Type} {pa:List Tok→Option α×List Tok} {d:Int}
end
def posOf (n:Nat):List Tok→Nat
 | []=>n
 | (_,p)::_=>p
end
structure In where
 op:Int
 a:Int
 b:Int
 test:Tst
def tmIsB (t:Tm):Bool:=decide (0≤t.of)&&decide (t.of<6)&&decide (0≤t.field)&&decide (t.field≤3)&&((decide (t.of=0)&&decide (t.field=0))||(!decide (t.of=0)&&decide (t.num=0)))
def tm0B (t:Tm):Bool:=decide (t.of=0)&&decide (t.field=0)&&decide (t.num=0)
def tstIsB (t:Tst):Bool:=tmIsB t.left&&tmIsB t.right&&tmIsB t.more&&(!decide (t.arith=0)||tm0B t.more)&&decide (0≤t.rel)&&decide (t.rel≤3)&&decide (0≤t.arith)&&decide (t.arith≤3)
def tst0B (t:Tst):Bool:=tm0B t.left&&decide (t.rel=0)&&tm0B t.right&&decide (t.arith=0)&&tm0B t.more
def hiOf (op:Int) (n:Int):Int:=if op=0 then 5 else if op=3 then 4 else if op=4∨op=5 then n else 1
def insIsB (x:In) (n:Int):Bool :=
 decide (0≤x.op)&&decide (x.op≤6)&&decide (0≤x.a)&&(decide (x.a<hiOf x.op n)||decide (x.op=1))&&decide (0≤x.b)&&decide (x.b<if x.op=5 then n else 1) &&
  (if x.op=2 then tstIsB x.test else tst0B x.test)
def endsB (x:In):Bool:=decide (x.op=4)||decide (x.op=5)||decide (x.op=6)
def noneFrom (n:Nat):Nat→List In→Nat
 | i,[]=>i
 | i,x::r=>if insIsB x n=true∧(i+1=n→endsB x=true) then noneFrom n (i+1) r else i
def firstNone (l:List In):Nat:=noneFrom l.length 0 l
theorem noneFrom_step {n i:Nat} {x:In} {r:List In} (h:insIsB x n=true) (h2:i+1=n→endsB x=true):noneFrom n i (x::r)=noneFrom n (i+1) r:=by
 simp only [noneFrom];rw [if_pos ⟨h,h2⟩]
theorem noneFrom_stop {n i:Nat} {x:In} {r:List In} (h:¬(insIsB x n=true∧(i+1=n→endsB x=true))):noneFrom n i (x::r)=i:=by
 simp only [noneFrom];rw [if_neg h]
theorem noneFrom_le (n:Nat):∀(r:List In) (i:Nat),i≤noneFrom n i r∧noneFrom n i r≤i+r.length:=by
 intro r
 induction r with
 | nil=>intro i;simp [noneFrom]
 | cons x r ih =>
  intro i
  simp only [noneFrom]
  split
  ·have:=ih (i+1);simp only [List.length_cons];omega
  ·simp only [List.length_cons];omega
theorem noneFrom_all (n:Nat):∀(r:List In) (i:Nat),noneFrom n i r=i+r.length→∀k x,r[k]? = some x→insIsB x n=true∧(i+k+1=n→endsB x=true):=by
 intro r
 induction r with
 | nil=>intro i _ k x hx;simp at hx
 | cons y r ih =>
  intro i h k x hx
  simp only [noneFrom] at h
  split at h
  ·rename_i hy
   cases k with
   | zero=>simp at hx;subst hx;exact hy
   | succ k =>
    simp at hx
    have:=ih (i+1) (by simp only [List.length_cons] at h;omega) k x hx
    refine ⟨this.1,fun e=>this.2 (by omega)⟩
  ·simp only [List.length_cons] at h;omega
def AllIns (l:List In):Prop:=∀k x,l[k]? = some x→insIsB x l.length=true∧(k+1=l.length→endsB x=true)
theorem allIns_of {l:List In} (h:firstNone l=l.length):AllIns l:=by
 intro k x hx
 have:=noneFrom_all l.length l 0 (by simpa [firstNone] using h) k x hx
 exact ⟨this.1,fun e=>this.2 (by omega)⟩
def nxt (x:In) (i:Nat):List Nat :=
 if x.op=6 then [] else if x.op=4 then [x.a.toNat] else if x.op=5 then [x.a.toNat,x.b.toNat] else [i+1]
theorem nxt_lt {l:List In} (h:AllIns l) {i:Nat} {x:In} (hx:l[i]? = some x):∀j∈nxt x i,j<l.length:=by
 intro j hj
 obtain ⟨h1,h2⟩:=h i x hx
 have hi:i<l.length:=(List.getElem?_eq_some_iff.1 hx).1
 simp only [insIsB,hiOf,Bool.and_eq_true,Bool.or_eq_true,decide_eq_true_eq] at h1
 obtain ⟨⟨⟨⟨⟨⟨a1,a2⟩,a3⟩,a4⟩,a5⟩,a6⟩,_⟩:=h1
 unfold nxt at hj
 split at hj
 ·simp at hj
 ·split at hj
  ·rename_i h6 h4
   simp at hj;subst hj
   simp only [h4] at a4
   simp at a4
   omega
  ·split at hj
   ·rename_i h6 h4 h5
    simp only [h5] at a4 a6
    simp at a4 a6 hj
    omega
   ·rename_i h6 h4 h5
    simp at hj;subst hj
    by_cases e:i+1=l.length
    ·have:=h2 e
     simp [endsB,h4,h5,h6] at this
    ·omega
def Edge (l:List In) (takes:Bool) (i j:Nat):Prop:=∃x,l[i]? = some x∧(x.op=0→takes=true)∧j∈nxt x i
def Rch (l:List In) (takes:Bool) (i k:Nat):Prop:=∀S:Nat→Prop,(∀j,Edge l takes i j→S j)→(∀x j,S x→Edge l takes x j→S j)→S k
theorem Rch.one {l:List In} {t:Bool} {i j:Nat} (h:Edge l t i j):Rch l t i j:=fun _ h1 _=>h1 j h
theorem Rch.more {l:List In} {t:Bool} {i x j:Nat} (h:Rch l t i x) (h2:Edge l t x j):Rch l t i j:=fun S h1 h3=>h3 x j (h S h1 h3) h2
theorem Rch.closed {l:List In} {t:Bool} {i j:Nat} {S:Nat→Prop} (h:Rch l t i j) (h1:∀j,Edge l t i j→S j) (h2:∀x j,S x→Edge l t x j→S j):S j:=h S h1 h2
structure Srch (l:List In) (t:Bool) (i:Nat) (bs:List Bool) (done:Nat→Prop) (q:List Nat):Prop where
 len:bs.length=l.length
 sound:∀j,bs[j]? = some true→Rch l t i j
 seen:∀x∈q,x=i∨bs[x]? = some true
 lt:∀x∈q,x<l.length
 all:∀j,(j=i∨bs[j]? = some true)→done j∨j∈q
 out:∀x j,done x→Edge l t x j→bs[j]? = some true
theorem Srch.start (l:List In) (t:Bool) (i:Nat) (hi:i<l.length):Srch l t i (List.replicate l.length false) (fun _=>False) [i] where
 len:=by simp
 sound:=by intro j h;simp [List.getElem?_replicate] at h
 seen:=by simp
 lt:=by simp [hi]
 all:=by
  intro j h
  rcases h with h|h
  ·exact Or.inr (by simp [h])
  ·simp [List.getElem?_replicate] at h
 out:=fun _ _ h=>False.elim h
theorem Srch.over {l:List In} {t:Bool} {i:Nat} {bs:List Bool} {done:Nat→Prop} (h:Srch l t i bs done []) (j:Nat):bs[j]? = some true↔Rch l t i j:=by
 refine ⟨h.sound j,fun hr => ?_⟩
 refine hr.closed (S:=fun j=>bs[j]? = some true) ?_ ?_
 ·intro j he
  rcases h.all i (Or.inl rfl) with hd|hd
  ·exact h.out i j hd he
  ·simp at hd
 ·intro x j hx he
  rcases h.all x (Or.inr hx) with hd|hd
  ·exact h.out x j hd he
  ·simp at hd
theorem edge_take {l:List In} {x:In} {at':Nat} (hx:l[at']? = some x) (h0:x.op=0) (j:Nat):¬Edge l false at' j:=by
 rintro ⟨y,hy,h1,_⟩
 rw [hx] at hy
 cases hy
 have:=h1 h0
 cases this
structure Leav (l:List In) (t:Bool) (i:Nat) (bs:List Bool) (done:Nat→Prop) (q:List Nat) (x:Nat) (ys:List Nat):Prop where
 len:bs.length=l.length
 sound:∀j,bs[j]? = some true→Rch l t i j
 here:x=i∨bs[x]? = some true
 seen:∀x∈q,x=i∨bs[x]? = some true
 lt:∀x∈q,x<l.length
 all:∀j,(j=i∨bs[j]? = some true)→done j∨j∈q∨j=x
 out:∀x j,done x→Edge l t x j→bs[j]? = some true
 got:∀j∈ys,bs[j]? = some true
theorem Srch.leave {l:List In} {t:Bool} {i:Nat} {bs:List Bool} {done:Nat→Prop} {q q':List Nat} {x:Nat} (h:Srch l t i bs done q) (hx:x∈q) (hq:∀y,y∈q→y=x∨y∈q') (hq':∀y∈q',y∈q):Leav l t i bs done q' x [] where
 len:=h.len
 sound:=h.sound
 here:=h.seen x hx
 seen:=fun y hy=>h.seen y (hq' y hy)
 lt:=fun y hy=>h.lt y (hq' y hy)
 all:=by
  intro j hj
  rcases h.all j hj with h1|h1
  ·exact Or.inl h1
  ·rcases hq j h1 with h2|h2
   ·exact Or.inr (Or.inr h2)
   ·exact Or.inr (Or.inl h2)
 out:=h.out
 got:=by simp
theorem get_set_true {bs:List Bool} {j k:Nat} (h:bs[k]? = some true):(bs.set j true)[k]? = some true:=by
 rw [List.getElem?_set]
 have hk:k<bs.length:=(List.getElem?_eq_some_iff.1 h).1
 by_cases e:j=k
 ·subst e;simp [hk]
 ·simp [e,h]
theorem Leav.mark {l:List In} {t:Bool} {i:Nat} {bs:List Bool} {done:Nat→Prop} {q:List Nat} {x j:Nat} {ys:List Nat} (h:Leav l t i bs done q x ys) (he:Edge l t x j) (hj:j<l.length):Leav l t i (bs.set j true) done (q++[j]) x (ys++[j]) where
 len:=by simp [h.len]
 sound:=by
  intro k hk
  by_cases e:k=j
  ·subst e
   rcases h.here with hx|hx
   ·subst hx;exact Rch.one he
   ·exact (h.sound x hx).more he
  ·rw [List.getElem?_set_ne (by omega)] at hk
   exact h.sound k hk
 here:=by
  rcases h.here with hx|hx
  ·exact Or.inl hx
  ·exact Or.inr (get_set_true hx)
 seen:=by
  intro y hy
  rcases List.mem_append.1 hy with hy|hy
  ·rcases h.seen y hy with e|e
   ·exact Or.inl e
   ·exact Or.inr (get_set_true e)
  ·simp at hy
   subst hy
   right
   rw [List.getElem?_set_self (by rw [h.len];exact hj)]
 lt:=by
  intro y hy
  rcases List.mem_append.1 hy with hy|hy
  ·exact h.lt y hy
  ·simp at hy;omega
 all:=by
  intro k hk
  by_cases e:k=j
  ·subst e;exact Or.inr (Or.inl (by simp))
  ·have:k=i∨bs[k]? = Option.some true:=by
    rcases hk with hk|hk
    ·exact Or.inl hk
    ·rw [List.getElem?_set_ne (by omega)] at hk;exact Or.inr hk
   rcases h.all k this with h1|h1|h1
   ·exact Or.inl h1
   ·exact Or.inr (Or.inl (by simp [h1]))
   ·exact Or.inr (Or.inr h1)
 out:=fun y k hy hk=>get_set_true (h.out y k hy hk)
 got:=by
  intro k hk
  rcases List.mem_append.1 hk with hk|hk
  ·exact get_set_true (h.got k hk)
  ·simp at hk
   subst hk
   rw [List.getElem?_set_self (by rw [h.len];exact hj)]
theorem Leav.skip {l:List In} {t:Bool} {i:Nat} {bs:List Bool} {done:Nat→Prop} {q:List Nat} {x j:Nat} {ys:List Nat} (h:Leav l t i bs done q x ys) (hj:bs[j]? = some true):Leav l t i bs done q x (ys++[j]) :=
 ⟨h.len,h.sound,h.here,h.seen,h.lt,h.all,h.out,fun k hk=>(List.mem_append.1 hk).elim (h.got k) (fun e=>by simp at e;subst e;exact hj)⟩
theorem Leav.left {l:List In} {t:Bool} {i:Nat} {bs:List Bool} {done:Nat→Prop} {q:List Nat} {x:Nat} {ys:List Nat} (h:Leav l t i bs done q x ys) (hy:∀j,Edge l t x j→j∈ys):Srch l t i bs (fun y=>done y∨y=x) q where
 len:=h.len
 sound:=h.sound
 seen:=h.seen
 lt:=h.lt
 all:=by
  intro j hj
  rcases h.all j hj with h1|h1|h1
  ·exact Or.inl (Or.inl h1)
  ·exact Or.inr h1
  ·exact Or.inl (Or.inr h1)
 out:=by
  intro y j hy' hj
  rcases hy' with h1|h1
  ·exact h.out y j h1 hj
  ·subst h1;exact h.got j (hy j hj)
theorem count_set {bs:List Bool}:∀ {j:Nat},bs[j]? = some false→(bs.set j true).count false+1=bs.count false:=by
 induction bs with
 | nil=>intro j h;simp at h
 | cons b r ih =>
  intro j h
  cases j with
  | zero=>simp at h;subst h;simp
  | succ j =>
   simp at h
   have:=ih h
   simp only [List.set_cons_succ,List.count_cons]
   omega
theorem edge_of {l:List In} {t:Bool} {x:Nat} {v:In} (hv:l[x]? = some v) (h0:v.op=0→t=true) {j:Nat}:Edge l t x j↔j∈nxt v x:=by
 constructor
 ·rintro ⟨y,hy,_,h2⟩
  rw [hv] at hy;cases hy;exact h2
 ·intro h;exact ⟨v,hv,h0,h⟩
def RndFrom (l:List In) (i k:Nat):Prop:=i≤k∧k≤l.length∧(∀j,i≤j→j<k→¬Rch l false j j)∧(k<l.length→Rch l false k k)
theorem RndFrom.uniq {l:List In} {i k m:Nat} (h:RndFrom l i k) (h':RndFrom l i m):k=m:=by
 obtain ⟨a1,a2,a3,a4⟩:=h
 obtain ⟨b1,b2,b3,b4⟩:=h'
 rcases Nat.lt_trichotomy k m with e|e|e
 ·exact absurd (a4 (by omega)) (b3 k a1 e)
 ·exact e
 ·exact absurd (b4 (by omega)) (a3 m b1 e)
section
structure Eg where
 fr:Nat
 to:Nat
 st:Int
abbrev Pl:=Nat→Nat→Nat→Nat→List Eg×Nat
def freeE (lo hi:Int) (fr to pt:Nat):List Eg :=
 [⟨fr,pt,-1⟩,⟨pt+1,to,-1⟩]++(if hi=1 then [] else [⟨pt+1,pt,-1⟩])++(if lo=0 then [⟨pt,pt+1,-1⟩] else [])
def plRound (lo hi:Int) (pl:Pl):Pl:=fun fr to pt st =>
 (freeE lo hi fr to pt++(pl pt (pt+1) (pt+2) st).1,(pl pt (pt+1) (pt+2) st).2)
def psRound (lo:Int) (ps:(Nat→Bool)→Nat→Bool):(Nat→Bool)→Nat→Bool:=fun ok st=>decide (lo=0)||ps ok st
section
variable {cnt:Nat} {pl:Pl} {ps:(Nat→Bool)→Nat→Bool} {rc:(Nat→Bool)→Nat→Nat→Bool}
end
def plThen (n1:Nat) (p1 p2:Pl):Pl:=fun fr to pt st =>
 ((p1 fr pt (pt+1) st).1++(p2 pt to (p1 fr pt (pt+1) st).2 (st+n1)).1,(p2 pt to (p1 fr pt (pt+1) st).2 (st+n1)).2)
def psThen (n1:Nat) (s1 s2:(Nat→Bool)→Nat→Bool):(Nat→Bool)→Nat→Bool:=fun ok st=>s1 ok st&&s2 ok (st+n1)
def rcThen (n1:Nat) (s1:(Nat→Bool)→Nat→Bool) (r1 r2:(Nat→Bool)→Nat→Nat→Bool):(Nat→Bool)→Nat→Nat→Bool:=fun ok st k =>
 if k<st+n1 then r1 ok st k else s1 ok st&&r2 ok (st+n1) k
def plOr (n1:Nat) (p1 p2:Pl):Pl:=fun fr to pt st =>
 ((p1 fr to pt st).1++(p2 fr to (p1 fr to pt st).2 (st+n1)).1,(p2 fr to (p1 fr to pt st).2 (st+n1)).2)
def psOr (n1:Nat) (s1 s2:(Nat→Bool)→Nat→Bool):(Nat→Bool)→Nat→Bool:=fun ok st=>s1 ok st||s2 ok (st+n1)
def rcOr (n1:Nat) (r1 r2:(Nat→Bool)→Nat→Nat→Bool):(Nat→Bool)→Nat→Nat→Bool:=fun ok st k =>
 if k<st+n1 then r1 ok st k else r2 ok (st+n1) k
section
variable {n1 n2:Nat} {p1 p2:Pl} {s1 s2:(Nat→Bool)→Nat→Bool} {r1 r2:(Nat→Bool)→Nat→Nat→Bool}
end
def plOne:Pl:=fun fr to pt st=>([⟨fr,to,(st:Int)⟩],pt)
def psOne:(Nat→Bool)→Nat→Bool:=fun ok st=>ok st
def rcOne:(Nat→Bool)→Nat→Nat→Bool:=fun _ _ _=>true
end
section
structure Part where
 cnt:Nat
 pl:Pl
 ps:(Nat→Bool)→Nat→Bool
 rc:(Nat→Bool)→Nat→Nat→Bool
def Part.round (lo hi:Int) (P:Part):Part:=⟨P.cnt,plRound lo hi P.pl,psRound lo P.ps,P.rc⟩
def Part.andThen (P Q:Part):Part:=⟨P.cnt+Q.cnt,plThen P.cnt P.pl Q.pl,psThen P.cnt P.ps Q.ps,rcThen P.cnt P.ps P.rc Q.rc⟩
def Part.orElse (P Q:Part):Part:=⟨P.cnt+Q.cnt,plOr P.cnt P.pl Q.pl,psOr P.cnt P.ps Q.ps,rcOr P.cnt P.rc Q.rc⟩
def Part.one:Part:=⟨1,plOne,psOne,rcOne⟩
structure Hand where
 cnt:Nat
 addM:(Nat→Int)→Int→Nat→Bool
 addS:(Nat→Int)→Int→Nat→Bool
 svM:(Nat→Int)→Int→Bool→Nat→Nat→Bool
 svS:(Nat→Int)→Int→Bool→Nat→Nat→Bool
 ir:Bool→Nat→Nat→Bool
def Hand.one:Hand:=⟨1,fun nm x st=>decide (nm st=x),fun nm x st=>decide (nm st=x),fun _ _ r _ _=>r,fun _ _ r _ _=>r,fun d _ _=>d⟩
def Hand.round (H:Hand):Hand:=⟨H.cnt,fun _ _ _=>false,fun _ _ _=>false,H.svM,H.svS,fun _ st k=>H.ir true st k⟩
def Hand.andThen (H K:Hand):Hand where
 cnt:=H.cnt+K.cnt
 addM:=fun nm x st=>H.addM nm x st||K.addM nm x (st+H.cnt)
 addS:=fun nm x st=>H.addS nm x st||K.addS nm x (st+H.cnt)
 svM:=fun nm x r st k=>if k<st+H.cnt then H.svM nm x r st k else K.svM nm x (r||H.addM nm x st) (st+H.cnt) k
 svS:=fun nm x r st k=>if k<st+H.cnt then H.svS nm x r st k else K.svS nm x (r||H.addS nm x st) (st+H.cnt) k
 ir:=fun d st k=>if k<st+H.cnt then H.ir d st k else K.ir d (st+H.cnt) k
def Hand.orElse (H K:Hand):Hand where
 cnt:=H.cnt+K.cnt
 addM:=fun nm x st=>H.addM nm x st||K.addM nm x (st+H.cnt)
 addS:=fun nm x st=>H.addS nm x st&&K.addS nm x (st+H.cnt)
 svM:=fun nm x r st k=>if k<st+H.cnt then H.svM nm x r st k else K.svM nm x r (st+H.cnt) k
 svS:=fun nm x r st k=>if k<st+H.cnt then H.svS nm x r st k else K.svS nm x r (st+H.cnt) k
 ir:=fun d st k=>if k<st+H.cnt then H.ir d st k else K.ir d (st+H.cnt) k
section
variable {P Q:Part} {H K:Hand}
end
end
end Go.Proofs.YtcboiapggnmpfaaGreatDoor
