import Derived.Test.YtcboiapggnmpfaaGreatDoorQai
namespace Go.Proofs.YtcboiapggnmpfaaGreatDoor
set_option maxRecDepth 100000
set_option maxHeartbeats 1000000
set_option linter.unusedSimpArgs false
set_option linter.unusedVariables false
section
inductive Nt where
 | one (s:St)
 | two (op:Int) (l r:Nt)
 | rnd (lo hi:Int) (b:Nt)
def Nt.size:Nt→Nat
 | .one _=>1
 | .two _ l r=>l.size+r.size+1
 | .rnd _ _ b=>b.size+1
def Nt.steps:Nt→List St
 | .one s=>[s]
 | .two _ l r=>l.steps++r.steps
 | .rnd _ _ b=>b.steps
def Nt.nd:Nt→Nat→Nat→List Nd
 | .one _,_,st=>[⟨0,st,0,0,0,0⟩]
 | .two op l r,n,st=>l.nd n st++(r.nd (n+l.size) (st+l.steps.length)++[⟨op,0,((n+l.size:Nat):Int) - 1,((n+l.size+r.size:Nat):Int) - 1,0,0⟩])
 | .rnd lo hi b,n,st=>b.nd n st++[⟨3,0,((n+b.size:Nat):Int) - 1,0,lo,hi⟩]
theorem Nt.nd_length:∀(t:Nt) (n st:Nat),(t.nd n st).length=t.size:=by
 intro t
 induction t with
 | one s=>intro n st;rfl
 | two op l r hl hr=>intro n st;simp [Nt.nd,Nt.size,hl,hr];omega
 | rnd lo hi b hb=>intro n st;simp [Nt.nd,Nt.size,hb]
theorem Nt.size_pos:∀t:Nt,1≤t.size:=by
 intro t
 cases t <;> simp [Nt.size] <;> omega
theorem Nt.steps_le:∀t:Nt,t.steps.length≤t.size:=by
 intro t
 induction t with
 | one s=>simp [Nt.steps,Nt.size]
 | two op l r hl hr=>simp [Nt.steps,Nt.size];omega
 | rnd lo hi b hb=>simp [Nt.steps,Nt.size];omega
abbrev PR:=Option Nt×List Tok
def Fits (l:List Tok) (r:PR):Prop:=r.2.length≤l.length∧∀t,r.1=some t→t.size+1+2*r.2.length≤2*l.length
section
variable {α:Type} (pa:List Tok→Option α×List Tok) (f:α→Nt)
def aR (l:List Tok):PR:=((pa l).1.map f,(pa l).2)
def repTr (x:α×Rep):Nt:=match x.2 with|none=>f x.1|some (lo,hi)=>.rnd lo hi (f x.1)
def repR (l:List Tok):PR:=((pRep pa l).1.map (repTr f),(pRep pa l).2)
def goOn (op:Int) (pr:List Tok→PR) (skip:List Tok→Option (List Tok)):Nat→Nt→List Tok→PR
 | 0,t,l=>(some t,l)
 | n+1,t,l=>match skip l with
  | none=>(some t,l)
  | some x=>match pr x with
   | (none,y)=>(none,y)
   | (some u,y)=>goOn op pr skip n (.two op t u) y
def skipA (l:List Tok):Option (List Tok):=if beginsB (hd l)=true then some l else none
def skipB:List Tok→Option (List Tok)
 | []=>none
 | (c,_)::r=>if c=124 then some r else none
def seqTr (x:SeqOf α):Nt:=x.2.foldl (fun t y=>.two 1 t (repTr f y)) (repTr f x.1)
def altTr (x:AltOf α):Nt:=x.2.foldl (fun t y=>.two 2 t (seqTr f y)) (seqTr f x.1)
def seqR (l:List Tok):PR:=((pSeq pa l).1.map (seqTr f),(pSeq pa l).2)
def altR (l:List Tok):PR:=((pAlt pa l).1.map (altTr f),(pAlt pa l).2)
theorem begins_iff (c:Int):beginsB c=true↔c=40∨isKindB c=true:=by simp [beginsB]
theorem goOn_more:∀(n:Nat) (t:Nt) (l:List Tok),goOn 1 (repR pa f) skipA n t l=((pMore pa n l).1.map (fun ys=>ys.foldl (fun t y=>Nt.two 1 t (repTr f y)) t),(pMore pa n l).2):=by
 intro n
 induction n with
 | zero=>intro t l;simp [goOn,pMore]
 | succ n ih =>
  intro t l
  match l with
  | []=>simp [goOn,pMore,skipA,hd,beginsB,isKindB]
  | (c,p)::r =>
   simp only [goOn,pMore,skipA,hd]
   by_cases hb:beginsB c=true
   ·have hb':=(begins_iff c).1 hb
    simp only [hb,if_pos hb',if_true]
    simp only [repR]
    cases hp:pRep pa ((c,p)::r) with
    | mk o x =>
     cases o with
     | none=>rfl
     | some a =>
      simp only [Option.map_some]
      rw [ih]
      cases hm:pMore pa n x with
      | mk q y=>cases q <;> simp
   ·have hb':¬(c=40∨isKindB c=true):=fun h=>hb ((begins_iff c).2 h)
    simp only [hb,if_neg hb',if_false,Bool.false_eq_true]
    rfl
theorem seqR_eq (l:List Tok):seqR pa f l=match repR pa f l with|(none,x)=>(none,x)|(some t,x)=>goOn 1 (repR pa f) skipA x.length t x:=by
 simp only [seqR,pSeq,repR]
 cases hp:pRep pa l with
 | mk o x =>
  cases o with
  | none=>rfl
  | some a =>
   show _=goOn 1 (repR pa f) skipA x.length (repTr f a) x
   rw [goOn_more]
   cases hm:pMore pa x.length x with
   | mk q y=>cases q <;> simp [seqTr,hm]
theorem goOn_alts:∀(n:Nat) (t:Nt) (l:List Tok),goOn 2 (seqR pa f) skipB n t l=((pAlts pa n l).1.map (fun ys=>ys.foldl (fun t y=>Nt.two 2 t (seqTr f y)) t),(pAlts pa n l).2):=by
 intro n
 induction n with
 | zero=>intro t l;simp [goOn,pAlts]
 | succ n ih =>
  intro t l
  match l with
  | []=>simp [goOn,pAlts,skipB]
  | (c,p)::r =>
   simp only [goOn,pAlts,skipB]
   by_cases hb:c=124
   ·simp only [if_pos hb]
    simp only [seqR]
    cases hp:pSeq pa r with
    | mk o x =>
     cases o with
     | none=>rfl
     | some a =>
      simp only [Option.map_some]
      rw [ih]
      cases hm:pAlts pa n x with
      | mk q y=>cases q <;> simp
   ·simp only [if_neg hb]
    rfl
theorem altR_eq (l:List Tok):altR pa f l=match seqR pa f l with|(none,x)=>(none,x)|(some t,x)=>goOn 2 (seqR pa f) skipB x.length t x:=by
 simp only [altR,pAlt,seqR]
 cases hp:pSeq pa l with
 | mk o x =>
  cases o with
  | none=>rfl
  | some a =>
   show _=goOn 2 (seqR pa f) skipB x.length (seqTr f a) x
   rw [goOn_alts]
   cases hm:pAlts pa x.length x with
   | mk q y=>cases q <;> simp [altTr,hm]
theorem pRepS_le (l:List Tok):(pRepS l).2.length≤l.length∧∀q,(pRepS l).1=some (some q)→(pRepS l).2.length<l.length:=by
 match l with
 | []=>simp [pRepS]
 | (c,p)::r =>
  have hc:∀(a b:Int) (l:List Tok),(pClose a b l).2.length≤l.length:=by
   intro a b l
   match l with
   | []=>simp [pClose]
   | (d,q)::r=>simp only [pClose];split <;> simp
  have hh:∀(a:Int) (l:List Tok),(pHigh a l).2.length≤l.length:=by
   intro a l
   match l with
   | []=>simp [pHigh]
   | (d,q)::r =>
    simp only [pHigh]
    split
    ·have:=hc a (d - 48) r;simp;omega
    ·simp
  have hl:∀(l:List Tok),(pLow l).2.length≤l.length:=by
   intro l
   match l with
   | []=>simp [pLow]
   | (d,q)::r =>
    simp only [pLow]
    split
    ·have:=hh (d - 48) r;simp;omega
    ·simp
  simp only [pRepS]
  split
  ·simp
  ·split
   ·simp
   ·split
    ·simp
    ·split
     ·exact ⟨by have:=hl r;simp only [List.length_cons];omega,fun q _=>by have:=hl r;simp only [List.length_cons];omega⟩
     ·simp
variable {pa f}
theorem fits_rep (h:∀l,Fits l (aR pa f l)) (l:List Tok):Fits l (repR pa f l):=by
 have h1:=h l
 simp only [Fits,aR,repR,pRep] at h1 ⊢
 cases hp:pa l with
 | mk o x =>
  rw [hp] at h1
  cases o with
  | none=>exact ⟨h1.1,by simp⟩
  | some a =>
   have h2:=pRepS_le x
   have h3:=h1.2 (f a) rfl
   have h4:=h1.1
   cases hq:pRepS x with
   | mk q y =>
    rw [hq] at h2
    cases q with
    | none =>
     simp only [hq,Option.map_none]
     exact ⟨by have:=h2.1;simp at this h4 ⊢;omega,by simp⟩
    | some q =>
     simp only [hq,Option.map_some,Option.some.injEq]
     refine ⟨by have:=h2.1;simp at this h4 ⊢;omega,?_⟩
     rintro t rfl
     cases q with
     | none=>have:=h2.1;simp [repTr] at this h3 ⊢;omega
     | some q=>have:=h2.2 q rfl;simp [repTr,Nt.size] at this h3 ⊢;omega
theorem fits_goOn {op:Int} {pr:List Tok→PR} {skip:List Tok→Option (List Tok)} (hp:∀l,Fits l (pr l)) (hs:∀l x,skip l=some x→x.length≤l.length):∀(n:Nat) (t:Nt) (m l:List Tok),t.size+1+2*l.length≤2*m.length→l.length≤m.length→Fits m (goOn op pr skip n t l):=by
 intro n
 induction n with
 | zero=>intro t m l h hl;exact ⟨hl,fun u hu=>by simp [goOn] at hu;subst hu;simpa [goOn] using h⟩
 | succ n ih =>
  intro t m l h hl
  simp only [goOn]
  cases hk:skip l with
  | none=>exact ⟨hl,fun u hu=>by simp at hu;subst hu;simpa using h⟩
  | some x =>
   have h1:=hs l x hk
   have h2:=hp x
   cases hq:pr x with
   | mk o y =>
    rw [hq] at h2
    cases o with
    | none =>
     simp only [hq]
     exact ⟨by have:=h2.1;simp at this ⊢;omega,by simp⟩
    | some u =>
     simp only [hq]
     have h3:=h2.2 u rfl
     have h4:=h2.1
     simp only at h3 h4
     exact ih (.two op t u) m y (by simp [Nt.size];omega) (by omega)
theorem skipA_le (l x:List Tok) (h:skipA l=some x):x.length≤l.length:=by
 unfold skipA at h
 split at h
 ·simp at h;subst h;exact Nat.le_refl _
 ·simp at h
theorem skipB_le (l x:List Tok) (h:skipB l=some x):x.length≤l.length:=by
 match l,h with
 | (c,p)::r,h =>
  simp only [skipB] at h
  split at h
  ·simp at h;subst h;simp
  ·simp at h
theorem fits_seq (h:∀l,Fits l (aR pa f l)) (l:List Tok):Fits l (seqR pa f l):=by
 have h1:=fits_rep h l
 rw [seqR_eq]
 cases hp:repR pa f l with
 | mk o x =>
  rw [hp] at h1
  cases o with
  | none=>exact ⟨h1.1,by simp⟩
  | some t=>exact fits_goOn (fits_rep h) skipA_le _ t l x (h1.2 t rfl) h1.1
theorem fits_alt (h:∀l,Fits l (aR pa f l)) (l:List Tok):Fits l (altR pa f l):=by
 have h1:=fits_seq h l
 rw [altR_eq]
 cases hp:seqR pa f l with
 | mk o x =>
  rw [hp] at h1
  cases o with
  | none=>exact ⟨h1.1,by simp⟩
  | some t=>exact fits_goOn (fits_seq h) skipB_le _ t l x (h1.2 t rfl) h1.1
end
def atomTr:(n:Nat)→Atom n→Nt
 | 0,s=>.one s
 | _+1,.inl s=>.one s
 | n+1,.inr t=>altTr (atomTr n) t
theorem pTest_lt (l:List Tok):(pTest l).2.length≤l.length:=(pTest_goes l ⟨8,0,0,0,0⟩ rfl rfl).le
theorem pTests_le:∀(n:Nat) (l:List Tok),(pTests n l).2.length≤l.length:=by
 intro n
 induction n with
 | zero=>intro l;simp [pTests]
 | succ n ih =>
  intro l
  have h1:=pTest_lt l
  simp only [pTests]
  cases hp:pTest l with
  | mk o x =>
   rw [hp] at h1
   cases o with
   | none=>exact h1
   | some t =>
    match x,h1 with
    | [],h1=>simp
    | (c,p)::r,h1 =>
     simp only
     split
     ·have h2:=ih r
      cases hq:pTests n r with
      | mk q y=>rw [hq] at h2;cases q <;> simp at h1 h2 ⊢ <;> omega
     ·split
      ·simp at h1 ⊢;omega
      ·exact h1
theorem pName_le (l:List Tok):(pName l).2.length≤l.length:=by
 match l with
 | []=>simp [pName]
 | (c,p)::r=>simp only [pName];split <;> simp
theorem pBox_le (l:List Tok):(pBox l).2.length≤l.length:=by
 match l with
 | []=>simp [pBox]
 | (c,p)::r =>
  simp only [pBox]
  split
  ·have:=pTests_le (r.length+1) r;simp;omega
  ·simp
theorem pStep_le (l:List Tok):(pStep l).2.length≤l.length∧∀s,(pStep l).1=some s→(pStep l).2.length<l.length:=by
 match l with
 | []=>simp [pStep]
 | (c,p)::r =>
  have h1:=pName_le r
  have h2:=pBox_le (pName r).2
  simp only [pStep]
  split
  ·cases hb:pBox (pName r).2 with
   | mk o x=>rw [hb] at h2;cases o <;> simp at h2 ⊢ <;> omega
  ·simp
theorem fits_atom:∀(n:Nat) (l:List Tok),Fits l (aR (pAtom n) (atomTr n) l):=by
 intro n
 induction n with
 | zero =>
  intro l
  have h:=pStep_le l
  refine ⟨h.1,fun t ht => ?_⟩
  have ht':(pStep l).1.map Nt.one=some t:=ht
  show t.size+1+2*(pStep l).2.length≤2*l.length
  cases hp:(pStep l).1 with
  | none=>rw [hp] at ht';cases ht'
  | some s =>
   have:=h.2 s hp
   rw [hp] at ht'
   simp only [Option.map_some,Option.some.injEq] at ht'
   subst ht'
   simp only [Nt.size];omega
 | succ n ih =>
  intro l
  match l with
  | []=>simp [Fits,aR,pAtom]
  | (c,p)::r =>
   simp only [Fits,aR,pAtom]
   split
   ·have h1:=fits_alt ih r
    simp only [Fits,altR] at h1
    cases hp:pAlt (pAtom n) r with
    | mk o x =>
     rw [hp] at h1
     cases o with
     | none=>exact ⟨by have:=h1.1;simp at this ⊢;omega,by simp⟩
     | some t =>
      have h2:=h1.2 _ rfl
      match x,h2 with
      | [],h2=>exact ⟨by simp,by simp⟩
      | (d,q)::y,h2 =>
       simp only
       split
       ·refine ⟨by have:=h1.1;simp at this ⊢;omega,?_⟩
        intro u hu
        have hu':some (altTr (atomTr n) t)=some u:=hu
        simp only [Option.some.injEq] at hu'
        subst hu'
        simp at h2 ⊢;omega
       ·exact ⟨by have:=h1.1;simp at this ⊢;omega,by simp⟩
   ·have h:=pStep_le ((c,p)::r)
    cases hp:pStep ((c,p)::r) with
    | mk o x =>
     rw [hp] at h
     cases o with
     | none=>exact ⟨h.1,by simp⟩
     | some s =>
      have:=h.2 s rfl
      refine ⟨h.1,?_⟩
      intro u hu
      have hu':some (Nt.one s)=some u:=hu
      simp only [Option.some.injEq] at hu'
      subst hu'
      simp [Nt.size] at this ⊢;omega
end
open Go.RowKit
section
def PtPost (s : ByteArray) (R : Nat) (w : World) (N : List Nd) (L : List (St × Value)) (r : PR) (e : Ending) (w' : World) : Prop :=
  ∃ (j : Nat) (nv sv : Value), At s j r.2 ∧ Kp (fun k => R ≤ k) w w' ∧
    ((r.1 = none ∧ e = .returned (.tuple #[.int .i64 0, .bool false]) ∧ Rd w' R s j nv sv) ∨
     (∃ t Ls z, r.1 = some t ∧ e = .returned (.tuple #[.int .i64 z, .bool true]) ∧ z = ((N.length + t.size : Nat) : Int) - 1 ∧ RS w' R s j nv sv (N ++ t.nd N.length L.length) (L ++ Ls) ∧ Ls.map Prod.fst = t.steps))
def PartOk (F:FuncId) (pa:List Tok→PR) (d:Int):Prop:=∀(s:ByteArray) (R i:Nat) (nv sv:Value) (N:List Nd) (L:List (St×Value)) (l:List Tok) (w:World),RS w R s i nv sv N L→s.size≤1000→At s i l→N.length+2*l.length≤90000→L.length≤N.length →
 Calls Tryz.prog F #[.pointer (some ⟨R,0,none⟩),.int .i64 d] w (PtPost s R w N L (pa l))
section
variable {α:Type} {pa:List Tok→Option α×List Tok} {f:α→Nt}
theorem repR_none {l:List Tok} (h:(aR pa f l).1=none):repR pa f l=(none,(aR pa f l).2):=by
 simp only [aR] at h
 simp only [repR,pRep,aR]
 cases hp:pa l with
 | mk o x=>cases o with
  | none=>rfl
  | some a=>rw [hp] at h;simp at h
theorem repR_some {l:List Tok} {t:Nt} (h:(aR pa f l).1=some t):repR pa f l=match pRepS (aR pa f l).2 with|(none,y)=>(none,y)|(some none,y)=>(some t,y)|(some (some q),y)=>(some (.rnd q.1 q.2 t),y):=by
 simp only [aR] at h
 simp only [repR,pRep,aR]
 cases hp:pa l with
 | mk o x=>cases o with
  | none=>rw [hp] at h;simp at h
  | some a =>
   rw [hp] at h
   simp at h
   subst h
   simp only
   cases hq:pRepS x with
   | mk q y=>cases q with
    | none=>rfl
    | some q=>cases q <;> rfl
end
theorem nd_rnd (N:List Nd) (t:Nt) (lo hi:Int) (st:Nat):N++(Nt.rnd lo hi t).nd N.length st=(N++t.nd N.length st)++[⟨3,0,((N.length+t.size:Nat):Int) - 1,0,lo,hi⟩]:=by simp [Nt.nd]
theorem len_nd (N:List Nd) (t:Nt) (st:Nat):(N++t.nd N.length st).length=N.length+t.size:=by simp [t.nd_length]
theorem own_kp {w w':World} {R n size base:Nat} {e:TypeId} {v:Value} {xs:List Value} (h:w.ownsRow (R+1) e size v n xs) (k:Kp (fun k=>k=R∨v.ownBlock=some k) w w'):Kp (fun k=>R≤k) w w':=by
 have hb:=h.lt
 refine k.mono (fun b _ e => ?_)
 rcases e with e|e
 ·omega
 ·have:=hb b e;omega
theorem pRepS_no {x:List Tok} (h1:¬hd x=42) (h2:¬hd x=43) (h3:¬hd x=63) (h4:¬hd x=123):pRepS x=(some none,x):=by
 match x with
 | []=>rfl
 | (c,p)::r=>simp only [hd] at h1 h2 h3 h4;simp [pRepS,h1,h2,h3,h4]
theorem readRep_any {α:Type} {pa:List Tok→Option α×List Tok} {f:α→Nt} {d:Int} (hA:PartOk 116 (aR pa f) d) (hf:∀l,Fits l (aR pa f l)):PartOk 106 (repR pa f) d:=by
 intro s R i nv sv N L l w h hs ha hN hL
 have hm:s.size≤maxLen:=by unfold maxLen;omega
 have hfl:=hf l
 go_enter Tryz.func106,Tryz.ntmps106
 go_wp2_with fail
 refine (hA s R i nv sv N L l w h hs ha hN hL).mono ?_
 rintro e w1 ⟨j1,nv1,sv1,a1,k1,h1⟩
 have A1:Hid (At s j1 (aR pa f l).2):=a1
 have K1:Hid (Kp (fun k=>R≤k) w w1):=k1
 have HFL:Hid (Fits l (aR pa f l)):=hfl
 clear k1 h ha hfl
 rcases h1 with ⟨hn,rfl,r1⟩ | ⟨t,Ls,z,hs1,rfl,hz,q1,hls⟩
 ·have HN:Hid ((aR pa f l).1=none):=hn
  clear hn
  go_wp2
  go_ret2
  rw [repR_none HN.out]
  exact ⟨j1,nv1,sv1,A1.out,K1.out,Or.inl ⟨rfl,rfl,r1⟩⟩
 ·have HT:Hid ((aR pa f l).1=some t):=hs1
  have Q1:Hid (RS w1 R s j1 nv1 sv1 (N++t.nd N.length L.length) (L++Ls)):=q1
  have HLS:Hid (Ls.map Prod.fst=t.steps):=hls
  have HRR:Hid (repR pa f l=match pRepS (aR pa f l).2 with|(none,y)=>(none,y)|(some none,y)=>(some t,y)|(some (some q),y)=>(some (.rnd q.1 q.2 t),y)):=repR_some hs1
  have hNN:(N++t.nd N.length L.length).length≤100000:=by
   have:=HFL.out.2 t hs1
   rw [len_nd];omega
  have HZ:Hid (z=((N.length+t.size:Nat):Int) - 1):=hz
  have hML:=len_nd N t L.length
  generalize hMM:N++t.nd N.length L.length=M at Q1 hNN hML
  have HMM:Hid (N++t.nd N.length L.length=M):=hMM
  have HML:Hid (M.length=N.length+t.size):=hML
  clear hz hMM hML
  obtain ⟨b0,b1⟩:=a1.hd_bounds
  generalize hx:(aR pa f l).2=x at b0 b1
  have HX:Hid ((aR pa f l).2=x):=hx
  have A1':Hid (At s j1 x):=by rw [←hx];exact A1.out
  rw [hx] at HRR
  clear hs1 q1 hls a1 hx A1
  go_wp2_with fail
  refine (peek_at Q1.out.rd hm A1'.out).mono ?_
  rintro e w2 ⟨rfl,n2,rfl⟩
  have Q2:Hid (RS (w1.drewN n2) R s j1 nv1 sv1 M (L++Ls)):=Q1.out.drewN n2
  have K2:Hid (Kp (fun k=>R≤k) w (w1.drewN n2)):=K1.out.drewN n2
  clear Q1 K1
  generalize w1.drewN n2=w3 at Q2 K2
  have HEND:Hid (∀(lo hi:Int) (y:List Tok) (w':World),NdPost s R sv1 w3 nv1 (M++[⟨3,0,z,0,lo,hi⟩]) y w'→repR pa f l=(some (.rnd lo hi t),y) →
    PtPost s R w N L (repR pa f l) (.returned (.tuple #[.int .i64 M.length,.bool true])) w'):=by
   rintro lo hi y w' ⟨j,nv',a,r,o,k,_⟩ he
   rw [he]
   refine ⟨j,nv',sv1,a,K2.out.trans (own_kp (base:=0) Q2.out.nodes k),Or.inr ⟨_,Ls,M.length,rfl,rfl,?_,?_,by simpa [Nt.steps] using HLS.out⟩⟩
   ·rw [HML.out];simp only [Nt.size];omega
   ·rw [nd_rnd,HMM.out,←HZ.out];exact Q2.out.nd r o k
  by_cases h42:hd x=42
  ·obtain ⟨p,r,rfl⟩:=hd_cons_of h42 (by omega)
   simp only [hd]
   go_wp2_with fail
   refine (repeat_any s R j1 nv1 sv1 _ _ 0 (-1) 42 p r _ Q2.out.rd Q2.out.nodes hNN hm A1'.out).mono ?_
   rintro e w4 ⟨rfl,h4⟩
   go_wp2
   go_ret2
   exact HEND.out 0 (-1) r w4 h4 (by rw [HRR.out];rfl)
  by_cases h43:hd x=43
  ·obtain ⟨p,r,rfl⟩:=hd_cons_of h43 (by omega)
   simp only [hd]
   go_wp2_with fail
   refine (repeat_any s R j1 nv1 sv1 _ _ 1 (-1) 43 p r _ Q2.out.rd Q2.out.nodes hNN hm A1'.out).mono ?_
   rintro e w4 ⟨rfl,h4⟩
   go_wp2
   go_ret2
   exact HEND.out 1 (-1) r w4 h4 (by rw [HRR.out];rfl)
  by_cases h63:hd x=63
  ·obtain ⟨p,r,rfl⟩:=hd_cons_of h63 (by omega)
   simp only [hd]
   go_wp2_with fail
   refine (repeat_any s R j1 nv1 sv1 _ _ 0 1 63 p r _ Q2.out.rd Q2.out.nodes hNN hm A1'.out).mono ?_
   rintro e w4 ⟨rfl,h4⟩
   go_wp2
   go_ret2
   exact HEND.out 0 1 r w4 h4 (by rw [HRR.out];rfl)
  by_cases h123:hd x=123
  ·obtain ⟨p,r,rfl⟩:=hd_cons_of h123 (by omega)
   simp only [hd]
   go_wp2_with fail
   refine (readCounts_any s R j1 nv1 sv1 _ _ 123 p r _ Q2.out.rd Q2.out.nodes hNN hm A1'.out).mono ?_
   rintro e w4 h4
   have HE:Hid (repR pa f l=match pLow r with|(none,y)=>(none,y)|(some none,y)=>(some t,y)|(some (some q),y)=>(some (.rnd q.1 q.2 t),y)):=HRR.out
   rcases h4 with ⟨hn,rfl,j,a,r4,k⟩ | ⟨lo,hi,hq,rfl,h4⟩
   ·have hp:pLow r=(none,(pLow r).2):=by rw [←hn]
    have HP:Hid (pLow r=(none,(pLow r).2)):=hp
    clear hp hn
    go_wp2
    go_ret2
    rw [HE.out,HP.out]
    exact ⟨j,nv1,sv1,a,K2.out.trans (k.mono (fun b _ e=>by omega)),Or.inl ⟨rfl,rfl,r4⟩⟩
   ·have hp:pLow r=(some (some (lo,hi)),(pLow r).2):=by rw [←hq]
    have HP:Hid (pLow r=(some (some (lo,hi)),(pLow r).2)):=hp
    clear hp hq
    go_wp2
    go_ret2
    exact HEND.out lo hi _ w4 h4 (by rw [HE.out,HP.out])
  ·have e1:=pRepS_no h42 h43 h63 h123
   have n1:(hd x == 42)=false:=by simp [h42]
   have n2:(hd x == 43)=false:=by simp [h43]
   have n3:(hd x == 63)=false:=by simp [h63]
   have n4:(hd x == 123)=false:=by simp [h123]
   have HE:Hid (repR pa f l=(some t,x)):=by
    show _=_
    rw [HRR.out,e1]
   clear h42 h43 h63 h123 e1
   go_wp2
   go_ret2
   rw [HE.out]
   refine ⟨j1,nv1,sv1,A1'.out,K2.out,Or.inr ⟨t,Ls,z,rfl,rfl,HZ.out,?_,HLS.out⟩⟩
   rw [HMM.out];exact Q2.out
end
theorem nd_two (N:List Nd) (t u:Nt) (op:Int) (st st':Nat) (h:st'=st+t.steps.length):N++(Nt.two op t u).nd N.length st=((N++t.nd N.length st)++u.nd (N++t.nd N.length st).length st')++[⟨op,0,((N.length+t.size:Nat):Int) - 1,((N.length+t.size+u.size:Nat):Int) - 1,0,0⟩]:=by
 rw [h,len_nd];simp [Nt.nd]
theorem fst_len {Ls:List (St×Value)} {ss:List St} (h:Ls.map Prod.fst=ss):Ls.length=ss.length:=by rw [←h];simp
theorem goOn_stop {op:Int} {pr:List Tok→PR} {skip:List Tok→Option (List Tok)} {n:Nat} {t:Nt} {x:List Tok} (h:skip x=none):goOn op pr skip n t x=(some t,x):=by
 cases n with
 | zero=>rfl
 | succ n=>simp [goOn,h]
theorem goOn_fail {op:Int} {pr:List Tok→PR} {skip:List Tok→Option (List Tok)} {n:Nat} {t:Nt} {x y z:List Tok} (h:skip x=some y) (hp:(pr y).1=none) (hz:(pr y).2=z):goOn op pr skip (n+1) t x=(none,z):=by
 have:pr y=(none,z):=by rw [←hp,←hz]
 simp [goOn,h,this]
theorem goOn_next {op:Int} {pr:List Tok→PR} {skip:List Tok→Option (List Tok)} {n:Nat} {t u:Nt} {x y z:List Tok} (h:skip x=some y) (hp:(pr y).1=some u) (hz:(pr y).2=z):goOn op pr skip (n+1) t x=goOn op pr skip n (.two op t u) z:=by
 have:pr y=(some u,z):=by rw [←hp,←hz]
 simp [goOn,h,this]
structure Mid2 (s:ByteArray) (R:Nat) (w:World) (N:List Nd) (L:List (St×Value)) (l:List Tok) (op:Int) (pr:List Tok→PR) (skip:List Tok→Option (List Tok)) (res:PR) (z:Int) (x:List Tok) (wr:World) (j n:Nat) (nv sv:Value) (t:Nt) (Ls:List (St×Value)):Prop where
 fuel:x.length≤n
 on:goOn op pr skip n t x=res
 at':At s j x
 kp:Kp (fun k=>R≤k) w wr
 val:z=((N.length+t.size:Nat):Int) - 1
 rs:RS wr R s j nv sv (N++t.nd N.length L.length) (L++Ls)
 st:Ls.map Prod.fst=t.steps
 room:t.size+1+2*x.length≤2*l.length
theorem Mid2.join {s:ByteArray} {R:Nat} {w:World} {N:List Nd} {L:List (St×Value)} {l:List Tok} {op:Int} {pr:List Tok→PR} {skip:List Tok→Option (List Tok)} {res:PR} {z:Int} {x:List Tok} {wr:World} {j n:Nat} {nv sv:Value} {t:Nt} {Ls:List (St×Value)}
  (h:Mid2 s R w N L l op pr skip res z x wr j (n+1) nv sv t Ls) {y:List Tok} (hk:skip x=some y) (hy:y.length≤x.length) (hf:Fits y (pr y)) {u:Nt} (hu:(pr y).1=some u) {z2:Int} {w2:World} {j2:Nat} {nv2 sv2:Value} {Ls2:List (St×Value)}
  (hz2:z2=(((N++t.nd N.length L.length).length+u.size:Nat):Int) - 1) (k2:Kp (fun k=>R≤k) w w2) (ha:At s j2 (pr y).2)
  (q2:RS w2 R s j2 nv2 sv2 ((N++t.nd N.length L.length)++u.nd (N++t.nd N.length L.length).length (L++Ls).length) ((L++Ls)++Ls2)) (hs2:Ls2.map Prod.fst=u.steps)
  {w3:World} {nv3:Value} (r3:Rd w3 R s j2 nv3 sv2) (o3:w3.ownsRow (R+1) 186 6 nv3 (((N++t.nd N.length L.length)++u.nd (N++t.nd N.length L.length).length (L++Ls).length)++[(⟨op,0,z,z2,0,0⟩:Nd)]).length (ndsC (((N++t.nd N.length L.length)++u.nd (N++t.nd N.length L.length).length (L++Ls).length)++[(⟨op,0,z,z2,0,0⟩:Nd)])))
  (k3:Kp (fun k=>k=R∨nv2.ownBlock=some k) w2 w3) :
  Mid2 s R w N L l op pr skip res (((N++t.nd N.length L.length)++u.nd (N++t.nd N.length L.length).length (L++Ls).length).length:Nat) (pr y).2 w3 j2 n nv3 sv2 (.two op t u) (Ls++Ls2):=by
 have hu2:=hf.2 u hu
 have hroom:=h.room
 have hst:=fst_len h.st
 have e1:((N++t.nd N.length L.length)++u.nd (N++t.nd N.length L.length).length (L++Ls).length).length=N.length+t.size+u.size:=by
  simp [Nt.nd_length];omega
 refine ⟨by have:=h.fuel;omega,?_,ha,k2.trans (own_kp (base:=0) q2.nodes k3),?_,?_,?_,?_⟩
 ·rw [←h.on,goOn_next hk hu rfl]
 ·rw [e1];simp only [Nt.size];omega
 ·have hz2':z2=((N.length+t.size+u.size:Nat):Int) - 1:=by rw [hz2,len_nd]
  rw [nd_two N t u op L.length (L++Ls).length (by simp [hst]),←h.val,←hz2']
  have:=q2.nd r3 o3 k3
  rw [←List.append_assoc]
  exact this
 ·simp [h.st,hs2,Nt.steps]
 ·simp only [Nt.size];omega
theorem readSeq_any {α:Type} {pa:List Tok→Option α×List Tok} {f:α→Nt} {d:Int} (hA:PartOk 106 (repR pa f) d) (hf:∀l,Fits l (repR pa f l)):PartOk 88 (seqR pa f) d:=by
 intro s R i nv sv N L l w h hs ha hN hL
 have hm:s.size≤maxLen:=by unfold maxLen;omega
 have hfl:=hf l
 go_enter Tryz.func88,Tryz.ntmps88
 go_wp2_with fail
 refine (hA s R i nv sv N L l w h hs ha hN hL).mono ?_
 rintro e w1 ⟨j1,nv1,sv1,a1,k1,h1⟩
 have A1:Hid (At s j1 (repR pa f l).2):=a1
 have K1:Hid (Kp (fun k=>R≤k) w w1):=k1
 have HFL:Hid (Fits l (repR pa f l)):=hfl
 have HEQ:Hid (seqR pa f l=match repR pa f l with|(none,x)=>(none,x)|(some t,x)=>goOn 1 (repR pa f) skipA x.length t x):=seqR_eq pa f l
 clear k1 h ha hfl a1
 rcases h1 with ⟨hn,rfl,r1⟩ | ⟨t,Ls,z,hs1,rfl,hz,q1,hls⟩
 ·have HN:Hid (repR pa f l=(none,(repR pa f l).2)):=by show _=_;rw [←hn]
  clear hn
  go_wp2
  go_loopg [6] 0 (fun m v6 wr=>v6=.int .i64 0∧wr=w1)
  case atStart=>exact ⟨rfl,rfl⟩
  case round =>
   obtain ⟨rfl,rfl⟩:=hrel
   go_wp2
   go_ret2
   rw [HEQ.out,HN.out]
   exact ⟨j1,nv1,sv1,A1.out,K1.out,Or.inl ⟨rfl,rfl,r1⟩⟩
 ·have hrx:repR pa f l=(some t,(repR pa f l).2):=by rw [←hs1]
  have M0:Hid (Mid2 s R w N L l 1 (repR pa f) skipA (seqR pa f l) z (repR pa f l).2 w1 j1 (repR pa f l).2.length nv1 sv1 t Ls) :=
   ⟨Nat.le_refl _,by rw [HEQ.out,hrx],A1.out,K1.out,hz,q1,hls,HFL.out.2 t hs1⟩
  clear hz q1 hls hs1 hrx
  go_wp2
  go_loopg [6] (repR pa f l).2.length (fun m v6 wr=>∃z x j n nv sv t Ls,v6=.int .i64 z∧m=x.length∧Mid2 s R w N L l 1 (repR pa f) skipA (seqR pa f l) z x wr j n nv sv t Ls)
  case atStart=>exact ⟨z,_,_,_,_,_,_,_,rfl,rfl,M0.out⟩
  case round =>
   obtain ⟨z,x,j,n,nv2,sv2,t,Ls,rfl,hmm,hM⟩:=hrel
   have HM:Hid (_=x.length):=hmm
   have MM:Hid (Mid2 s R w N L l 1 (repR pa f) skipA (seqR pa f l) z x wr j n nv2 sv2 t Ls):=hM
   obtain ⟨b0,b1⟩:=hM.at'.hd_bounds
   clear hmm hM M0
   go_wp2_with fail
   refine (peek_at MM.out.rs.rd hm MM.out.at').mono ?_
   rintro e w2 ⟨rfl,n2,rfl⟩
   generalize hb:beginsB (hd x)=B
   have HB:Hid (beginsB (hd x)=B):=hb
   clear hb
   go_wp2_with fail
   refine (beginsAtom_any (hd x) _ b0 b1).mono ?_
   rw [HB.out]
   rintro e w3 ⟨rfl,rfl⟩
   have M2:Hid (Mid2 s R w N L l 1 (repR pa f) skipA (seqR pa f l) z x (wr.drewN n2) j n nv2 sv2 t Ls):=⟨MM.out.fuel,MM.out.on,MM.out.at',MM.out.kp.drewN n2,MM.out.val,MM.out.rs.drewN n2,MM.out.st,MM.out.room⟩
   clear MM
   generalize wr.drewN n2=w4 at M2
   cases B with
   | false =>
    have HSK:Hid (skipA x=none):=by show _=_;simp [skipA,HB.out]
    go_wp2
    go_ret2
    rw [←M2.out.on,goOn_stop HSK.out]
    exact ⟨j,nv2,sv2,M2.out.at',M2.out.kp,Or.inr ⟨t,Ls,z,rfl,rfl,M2.out.val,M2.out.rs,M2.out.st⟩⟩
   | true =>
    have HSK:Hid (skipA x=some x):=by show _=_;simp [skipA,HB.out]
    have hx0:0<x.length:=by
     match x,HB.out with
     | [],h=>simp [hd,beginsB,isKindB] at h
     | _::_,_=>simp
    obtain ⟨n',rfl⟩:∃n',n=n'+1:=⟨n - 1,by have:=M2.out.fuel;omega⟩
    have HNN:Hid ((N++t.nd N.length L.length).length+2*x.length≤90000):=by
     have:=M2.out.room
     show _≤_
     rw [len_nd];omega
    have HLL:Hid ((L++Ls).length≤(N++t.nd N.length L.length).length):=by
     have h1:=fst_len M2.out.st
     have h2:=t.steps_le
     show _≤_
     rw [len_nd];simp;omega
    go_wp2_with fail
    refine (hA s R j nv2 sv2 _ _ x w4 M2.out.rs hs M2.out.at' HNN.out HLL.out).mono ?_
    rintro e w5 ⟨j5,nv5,sv5,a5,k5,h5⟩
    have K5:Hid (Kp (fun k=>R≤k) w w5):=M2.out.kp.trans k5
    have A5:Hid (At s j5 (repR pa f x).2):=a5
    clear k5 a5
    rcases h5 with ⟨hn,rfl,r5⟩ | ⟨u,Ls5,z5,hs5,rfl,hz5,q5,hls5⟩
    ·have HN:Hid ((repR pa f x).1=none):=hn
     clear hn
     go_wp2
     go_ret2
     rw [←M2.out.on,goOn_fail HSK.out HN.out rfl]
     exact ⟨j5,nv5,sv5,A5.out,K5.out,Or.inl ⟨rfl,rfl,r5⟩⟩
    ·have hlen5:((N++t.nd N.length L.length)++u.nd (N++t.nd N.length L.length).length (L++Ls).length).length≤100000:=by
      have h1:=M2.out.room
      have h2:=(hf x).2 u hs5
      simp only [List.length_append,Nt.nd_length]
      omega
     have Q5:Hid (RS w5 R s j5 nv5 sv5 ((N++t.nd N.length L.length)++u.nd (N++t.nd N.length L.length).length (L++Ls).length) ((L++Ls)++Ls5)):=q5
     have HZ5:Hid (z5=(((N++t.nd N.length L.length).length+u.size:Nat):Int) - 1):=hz5
     have HU:Hid ((repR pa f x).1=some u):=hs5
     have HL5:Hid (Ls5.map Prod.fst=u.steps):=hls5
     have hlt:Hid ((repR pa f x).2.length<x.length):=by
      have:=(hf x).2 u hs5
      show _<_
      omega
     have HJ:Hid (∀(w6:World) (nv6:Value),Rd w6 R s j5 nv6 sv5→w6.ownsRow (R+1) 186 6 nv6 (((N++t.nd N.length L.length)++u.nd (N++t.nd N.length L.length).length (L++Ls).length)++[(⟨1,0,z,z5,0,0⟩:Nd)]).length (ndsC (((N++t.nd N.length L.length)++u.nd (N++t.nd N.length L.length).length (L++Ls).length)++[(⟨1,0,z,z5,0,0⟩:Nd)]))→Kp (fun k=>k=R∨nv5.ownBlock=some k) w5 w6 →
       ∃t' Ls',Mid2 s R w N L l 1 (repR pa f) skipA (seqR pa f l) (((N++t.nd N.length L.length)++u.nd (N++t.nd N.length L.length).length (L++Ls).length).length:Nat) (repR pa f x).2 w6 j5 n' nv6 sv5 t' Ls') :=
      fun w6 nv6 r6 o6 k6=>⟨_,_,M2.out.join HSK.out (Nat.le_refl _) (hf x) HU.out HZ5.out K5.out A5.out Q5.out HL5.out r6 o6 k6⟩
     clear hz5 q5 hs5 hls5 HZ5 HL5 HNN HLL
     generalize hMM:(N++t.nd N.length L.length)++u.nd (N++t.nd N.length L.length).length (L++Ls).length=M at Q5 HJ hlen5
     clear hMM
     go_wp2_with fail
     refine (addNode_any s R j5 nv5 sv5 M 1 0 z z5 0 0 _ Q5.out.rd Q5.out.nodes hlen5).mono ?_
     rintro e w6 ⟨rfl,nv6,r6,o6,k6,_⟩
     obtain ⟨t',Ls',hj⟩:=HJ.out w6 nv6 r6 o6 k6
     have HJ2:Hid (Mid2 s R w N L l 1 (repR pa f) skipA (seqR pa f l) (M.length:Nat) (repR pa f x).2 w6 j5 n' nv6 sv5 t' Ls'):=hj
     clear r6 o6 k6 hj HJ
     go_wp2
     go_roundg (repR pa f x).2.length
     case measure=>have:=hlt.out;rw [HM.out];omega
     case rel=>exact ⟨_,_,_,_,_,_,_,_,rfl,rfl,HJ2.out⟩
end Go.Proofs.YtcboiapggnmpfaaGreatDoor
