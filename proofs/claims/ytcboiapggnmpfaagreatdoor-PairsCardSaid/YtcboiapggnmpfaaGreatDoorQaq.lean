import Derived.Test.YtcboiapggnmpfaaGreatDoorQap
namespace Go.Proofs.YtcboiapggnmpfaaGreatDoor
set_option linter.unusedVariables false
abbrev Spo:=Nat×Nat×Bool
def SpotIs (t u:Nt) (k:Nat) (x:Spo):Prop :=
 ∃M S:Int→Bool,IsSet x.1 M∧IsSet x.2.1 S∧∀j,k≤j→j<k+u.steps.length →
  (∀y,t.hand.svM (nmT t) y false 0 j=u.hand.svM (nmT t) y (M y) k j)∧(∀y,t.hand.svS (nmT t) y false 0 j=u.hand.svS (nmT t) y (S y) k j)∧t.hand.ir false 0 j=u.hand.ir x.2.2 k j
structure LeafIs (t:Nt) (k:Nat) (x:Spo):Prop where
 maybe:IsSet x.1 (fun y=>t.hand.svM (nmT t) y false 0 k)
 surely:IsSet x.2.1 (fun y=>t.hand.svS (nmT t) y false 0 k)
 rep:x.2.2=t.hand.ir false 0 k
theorem SpotIs.root (t:Nt):SpotIs t t 0 (0,0,false):=⟨_,_,IsSet.zero,IsSet.zero,fun j _ _=>⟨fun _=>rfl,fun _=>rfl,rfl⟩⟩
theorem SpotIs.lt {t u:Nt} {k:Nat} {x:Spo} (h:SpotIs t u k x):x.1<2 ^ 26∧x.2.1<2 ^ 26:=by
 obtain ⟨M,S,h1,h2,_⟩:=h
 exact ⟨h1.lt,h2.lt⟩
theorem SpotIs.thenL {t l r:Nt} {k:Nat} {x:Spo} (h:SpotIs t (.two 1 l r) k x):SpotIs t l k x:=by
 obtain ⟨M,S,h1,h2,h3⟩:=h
 refine ⟨M,S,h1,h2,fun j a b => ?_⟩
 have e:=l.hand_cnt
 have:=h3 j a (by simp only [Nt.steps,List.length_append];omega)
 simp only [Nt.hand,if_true,Hand.andThen,e,if_pos b] at this
 exact this
theorem SpotIs.thenR {t l r:Nt} {k a b:Nat} {x:Spo} (h:SpotIs t (.two 1 l r) k x) (hl:AddIs (nmT t) l k a b):SpotIs t r (k+l.steps.length) (x.1 ||| a,x.2.1 ||| b,x.2.2):=by
 obtain ⟨M,S,h1,h2,h3⟩:=h
 refine ⟨_,_,h1.or hl.maybe,h2.or hl.surely,fun j c d => ?_⟩
 have e:=l.hand_cnt
 have:=h3 j (by omega) (by simp only [Nt.steps,List.length_append];omega)
 simp only [Nt.hand,if_true,Hand.andThen,e,if_neg (show ¬j<k+l.steps.length by omega)] at this
 exact this
theorem SpotIs.orL {t l r:Nt} {k:Nat} {x:Spo} (h:SpotIs t (.two 2 l r) k x):SpotIs t l k x:=by
 obtain ⟨M,S,h1,h2,h3⟩:=h
 refine ⟨M,S,h1,h2,fun j a b => ?_⟩
 have e:=l.hand_cnt
 have:=h3 j a (by simp only [Nt.steps,List.length_append];omega)
 simp only [Nt.hand,show ¬(2:Int)=1 by omega,if_false,Hand.orElse,e,if_pos b] at this
 exact this
theorem SpotIs.orR {t l r:Nt} {k:Nat} {x:Spo} (h:SpotIs t (.two 2 l r) k x):SpotIs t r (k+l.steps.length) x:=by
 obtain ⟨M,S,h1,h2,h3⟩:=h
 refine ⟨M,S,h1,h2,fun j c d => ?_⟩
 have e:=l.hand_cnt
 have:=h3 j (by omega) (by simp only [Nt.steps,List.length_append];omega)
 simp only [Nt.hand,show ¬(2:Int)=1 by omega,if_false,Hand.orElse,e,if_neg (show ¬j<k+l.steps.length by omega)] at this
 exact this
theorem SpotIs.rnd {t b:Nt} {lo hi:Int} {k:Nat} {x:Spo} (h:SpotIs t (.rnd lo hi b) k x):SpotIs t b k (x.1,x.2.1,true):=by
 obtain ⟨M,S,h1,h2,h3⟩:=h
 exact ⟨M,S,h1,h2,fun j c d=>h3 j c d⟩
theorem SpotIs.leaf {t:Nt} {s:St} {k:Nat} {x:Spo} (h:SpotIs t (.one s) k x):LeafIs t k x:=by
 obtain ⟨M,S,h1,h2,h3⟩:=h
 obtain ⟨a,b,c⟩:=h3 k (Nat.le_refl _) (by simp [Nt.steps])
 have ha:(fun y=>t.hand.svM (nmT t) y false 0 k)=M:=by funext y;exact a y
 have hb:(fun y=>t.hand.svS (nmT t) y false 0 k)=S:=by funext y;exact b y
 exact ⟨by rw [ha];exact h1,by rw [hb];exact h2,c.symm⟩
def Kid (t:Nt) (n st p j:Nat):Prop :=
 ∃u m k,(t.subs n st)[p]? = some (u,m,k)∧((∃op l r,u=.two op l r∧(j+1+n=m+l.size∨j+1+n=m+l.size+r.size))∨∃lo hi b,u=.rnd lo hi b∧j+1+n=m+b.size)
theorem kid:∀(t:Nt) (n st j:Nat),j+1<t.size→∃p,j<p∧Kid t n st p j:=by
 intro t
 induction t with
 | one s=>intro n st j h;simp [Nt.size] at h
 | two op l r hl hr =>
  intro n st j h
  have hlp:=l.size_pos
  have hrp:=r.size_pos
  simp only [Nt.size] at h
  by_cases h1:j+1<l.size
  ·obtain ⟨p,hp,u,m,k,e,c⟩:=hl n st j h1
   have hpl:p<l.size:=by have:=(List.getElem?_eq_some_iff.1 e).1;rwa [Nt.subs_length] at this
   exact ⟨p,hp,u,m,k,by simp only [Nt.subs];rw [List.getElem?_append_left (by rw [Nt.subs_length];exact hpl)];exact e,c⟩
  ·by_cases h2:j+1=l.size
   ·refine ⟨l.size+r.size,by omega,.two op l r,n,st,?_,Or.inl ⟨op,l,r,rfl,Or.inl (by omega)⟩⟩
    have:=Nt.subs_last (.two op l r) n st
    simpa [Nt.size] using this
   ·by_cases h3:j+1<l.size+r.size
    ·obtain ⟨p,hp,u,m,k,e,c⟩:=hr (n+l.size) (st+l.steps.length) (j - l.size) (by omega)
     have hpl:p<r.size:=by have:=(List.getElem?_eq_some_iff.1 e).1;rwa [Nt.subs_length] at this
     refine ⟨p+l.size,by omega,u,m,k,?_,?_⟩
     ·simp only [Nt.subs]
      rw [List.getElem?_append_right (by rw [Nt.subs_length];omega),Nt.subs_length,List.getElem?_append_left (by rw [Nt.subs_length];omega)]
      have:p+l.size - l.size=p:=by omega
      rw [this];exact e
     ·rcases c with ⟨op',l',r',e1,c⟩ | ⟨lo,hi,b,e1,c⟩
      ·exact Or.inl ⟨op',l',r',e1,by omega⟩
      ·exact Or.inr ⟨lo,hi,b,e1,by omega⟩
    ·refine ⟨l.size+r.size,by omega,.two op l r,n,st,?_,Or.inl ⟨op,l,r,rfl,Or.inr (by omega)⟩⟩
     have:=Nt.subs_last (.two op l r) n st
     simpa [Nt.size] using this
 | rnd lo hi b hb =>
  intro n st j h
  have hbp:=b.size_pos
  simp only [Nt.size] at h
  by_cases h1:j+1<b.size
  ·obtain ⟨p,hp,u,m,k,e,c⟩:=hb n st j h1
   have hpl:p<b.size:=by have:=(List.getElem?_eq_some_iff.1 e).1;rwa [Nt.subs_length] at this
   exact ⟨p,hp,u,m,k,by simp only [Nt.subs];rw [List.getElem?_append_left (by rw [Nt.subs_length];exact hpl)];exact e,c⟩
  ·refine ⟨b.size,by omega,.rnd lo hi b,n,st,?_,Or.inr ⟨lo,hi,b,rfl,by omega⟩⟩
   have:=Nt.subs_last (.rnd lo hi b) n st
   simpa [Nt.size] using this
theorem leafAt:∀(t:Nt) (n st k:Nat),st≤k→k<st+t.steps.length→∃(p:Nat) (s:St) (m:Nat),(t.subs n st)[p]? = some (Nt.one s,m,k):=by
 intro t
 induction t with
 | one s =>
  intro n st k h1 h2
  have:k=st:=by simp [Nt.steps] at h2;omega
  subst this;exact ⟨0,s,n,rfl⟩
 | two op l r hl hr =>
  intro n st k h1 h2
  simp only [Nt.steps,List.length_append] at h2
  by_cases h:k<st+l.steps.length
  ·obtain ⟨p,s,m,e⟩:=hl n st k h1 h
   have hpl:=(List.getElem?_eq_some_iff.1 e).1
   exact ⟨p,s,m,by simp only [Nt.subs];rw [List.getElem?_append_left hpl];exact e⟩
  ·obtain ⟨p,s,m,e⟩:=hr (n+l.size) (st+l.steps.length) k (by omega) (by omega)
   have hpl:=(List.getElem?_eq_some_iff.1 e).1
   refine ⟨p+l.size,s,m,?_⟩
   simp only [Nt.subs]
   rw [List.getElem?_append_right (by rw [Nt.subs_length];omega),Nt.subs_length,Nat.add_sub_cancel,List.getElem?_append_left hpl];exact e
 | rnd lo hi b hb =>
  intro n st k h1 h2
  obtain ⟨p,s,m,e⟩:=hb n st k h1 h2
  have hpl:=(List.getElem?_eq_some_iff.1 e).1
  exact ⟨p,s,m,by simp only [Nt.subs];rw [List.getElem?_append_left hpl];exact e⟩
def Ready (t:Nt) (sp:List Spo) (j:Nat):Prop:=∀u m k x,(t.subs 0 0)[j]? = some (u,m,k)→sp[j]? = some x→SpotIs t u k x
structure Spots (t:Nt) (i:Nat) (sp ss:List Spo):Prop where
 len:sp.length=t.size
 lens:ss.length=t.steps.length
 ok:∀j,j<i→(j+1=t.size∨∃p,i≤p∧Kid t 0 0 p j)→Ready t sp j
 leaf:∀(p:Nat) (s:St) (m k:Nat) (x:Spo),i≤p→(t.subs 0 0)[p]? = some (Nt.one s,m,k)→ss[k]? = some x→LeafIs t k x
theorem Spots.start (t:Nt):Spots t t.size (List.replicate t.size (0,0,false)) (List.replicate t.steps.length (0,0,false)):=by
 have hp:=t.size_pos
 refine ⟨by simp,by simp,?_,?_⟩
 ·intro j hj h u m k x hs hx
  have e:j+1=t.size:=by
   rcases h with h|⟨p,hp,u',m',k',e,_⟩
   ·exact h
   ·have:=(List.getElem?_eq_some_iff.1 e).1;rw [Nt.subs_length] at this;omega
  have hj':j=t.size - 1:=by omega
  rw [hj',Nt.subs_last] at hs
  simp only [Option.some.injEq,Prod.mk.injEq] at hs
  obtain ⟨rfl,rfl,rfl⟩:=hs
  simp [hj] at hx
  subst hx
  exact SpotIs.root t
 ·intro p s m k x hp' e
  have:=(List.getElem?_eq_some_iff.1 e).1;rw [Nt.subs_length] at this;omega
theorem Spots.here {t:Nt} {i:Nat} {sp ss:List Spo} (h:Spots t (i+1) sp ss) (hi:i<t.size) {u:Nt} {m k:Nat} {x:Spo} (hu:(t.subs 0 0)[i]? = some (u,m,k)) (hx:sp[i]? = some x):SpotIs t u k x:=by
 refine h.ok i (by omega) ?_ u m k x hu hx
 by_cases e:i+1=t.size
 ·exact Or.inl e
 ·obtain ⟨p,hp,hk⟩:=kid t 0 0 i (by omega)
  exact Or.inr ⟨p,by omega,hk⟩
theorem Spots.leafSet {t:Nt} {i:Nat} {sp ss:List Spo} (h:Spots t (i+1) sp ss) (hi:i<t.size) {s:St} {m k:Nat} {x:Spo} (hu:(t.subs 0 0)[i]? = some (.one s,m,k)) (hx:sp[i]? = some x):Spots t i sp (ss.set k x):=by
 have hs:=(h.here hi hu hx).leaf
 refine ⟨h.len,by simp [h.lens],?_,?_⟩
 ·intro j hj hh
  refine h.ok j (by omega) ?_
  rcases hh with e|⟨p,hp,hk⟩
  ·exact Or.inl e
  ·refine Or.inr ⟨p,?_,hk⟩
   by_cases e:p=i
   ·exfalso
    subst e
    obtain ⟨u',m',k',e1,c⟩:=hk
    rw [hu] at e1
    simp only [Option.some.injEq,Prod.mk.injEq] at e1
    obtain ⟨rfl,_⟩:=e1
    rcases c with ⟨_,_,_,e,_⟩ | ⟨_,_,_,e,_⟩ <;> cases e
   ·omega
 ·intro p s' m' k' y hp e hy
  by_cases hkk:k'=k
  ·subst hkk
   by_cases hl:k'<ss.length
   ·rw [List.getElem?_set_self hl] at hy
    simp only [Option.some.injEq] at hy
    subst hy;exact hs
   ·rw [List.getElem?_eq_none (by simpa using hl)] at hy;cases hy
  ·rw [List.getElem?_set_ne (by omega)] at hy
   by_cases hpi:p=i
   ·subst hpi
    rw [hu] at e
    simp only [Option.some.injEq,Prod.mk.injEq] at e
    omega
   ·exact h.leaf p s' m' k' y (by omega) e hy
theorem Spots.step {t:Nt} {i:Nat} {sp sp' ss:List Spo} (h:Spots t (i+1) sp ss) (hl:sp'.length=sp.length) {u:Nt} {m k:Nat} (hu:(t.subs 0 0)[i]? = some (u,m,k)) (hno:∀s,¬u=.one s)
  (hs:∀j,j<i→Kid t 0 0 i j→Ready t sp' j) (ho:∀j,j<i→Ready t sp j→Ready t sp' j) (hi:i<t.size):Spots t i sp' ss:=by
 refine ⟨by rw [hl,h.len],h.lens,?_,?_⟩
 ·intro j hj hh
  rcases hh with e|⟨p,hp,hk⟩
  ·omega
  ·by_cases e:p=i
   ·subst e;exact hs j hj hk
   ·exact ho j hj (h.ok j (by omega) (Or.inr ⟨p,by omega,hk⟩))
 ·intro p s m' k' x hp e hx
  by_cases hpi:p=i
  ·subst hpi
   rw [hu] at e
   simp only [Option.some.injEq,Prod.mk.injEq] at e
   exact absurd e.1 (hno s)
  ·exact h.leaf p s m' k' x (by omega) e hx
theorem Ready.set {t:Nt} {sp:List Spo} {a j:Nat} {x:Spo} {u:Nt} {m k:Nat} (ha:(t.subs 0 0)[a]? = some (u,m,k)) (hx:SpotIs t u k x) (h:j=a∨Ready t sp j):Ready t (sp.set a x) j:=by
 intro u' m' k' y hu hy
 by_cases e:j=a
 ·subst e
  rw [ha] at hu
  simp only [Option.some.injEq,Prod.mk.injEq] at hu
  obtain ⟨rfl,rfl,rfl⟩:=hu
  by_cases hl:j<sp.length
  ·rw [List.getElem?_set_self hl] at hy
   simp only [Option.some.injEq] at hy
   subst hy;exact hx
  ·rw [List.getElem?_eq_none (by simpa using hl)] at hy;cases hy
 ·rw [List.getElem?_set_ne (by omega)] at hy
  exact (h.resolve_left e) u' m' k' y hu hy
theorem Spots.two {t:Nt} {i:Nat} {sp ss:List Spo} (h:Spots t (i+1) sp ss) (hi:i<t.size) {op:Int} {l r:Nt} {m k:Nat} {x y z:Spo} (hu:(t.subs 0 0)[i]? = some (.two op l r,m,k)) {jl jr:Nat} (hjl:jl+1=m+l.size) (hjr:jr+1=m+l.size+r.size)
  (hy:SpotIs t l k y) (hz:SpotIs t r (k+l.steps.length) z):Spots t i ((sp.set jl y).set jr z) ss:=by
 have hok:=t.subs_ok 0 0 i _ m k hu
 obtain ⟨sl,sr⟩:=hok.two op l r rfl
 have e1:m+l.size - 1 - 0=jl:=by omega
 have e2:m+l.size+r.size - 1 - 0=jr:=by omega
 rw [e1] at sl
 rw [e2] at sr
 refine h.step (by simp) hu (by intro s e;cases e) ?_ ?_ hi
 ·intro j hj hk
  obtain ⟨u',m',k',e1,c⟩:=hk
  rw [hu] at e1
  simp only [Option.some.injEq,Prod.mk.injEq] at e1
  obtain ⟨rfl,rfl,rfl⟩:=e1
  rcases c with ⟨op',l',r',e,c⟩ | ⟨_,_,_,e,_⟩
  ·simp only [Nt.two.injEq] at e
   obtain ⟨rfl,rfl,rfl⟩:=e
   rcases c with c|c
   ·exact Ready.set sr hz (Or.inr (Ready.set sl hy (Or.inl (by omega))))
   ·exact Ready.set sr hz (Or.inl (by omega))
  ·cases e
 ·intro j hj hr
  exact Ready.set sr hz (Or.inr (Ready.set sl hy (Or.inr hr)))
theorem Spots.rnd {t:Nt} {i:Nat} {sp ss:List Spo} (h:Spots t (i+1) sp ss) (hi:i<t.size) {lo hh:Int} {b:Nt} {m k:Nat} {y:Spo} (hu:(t.subs 0 0)[i]? = some (.rnd lo hh b,m,k)) {jl:Nat} (hjl:jl+1=m+b.size)
  (hy:SpotIs t b k y):Spots t i (sp.set jl y) ss:=by
 have hok:=t.subs_ok 0 0 i _ m k hu
 have sl:=hok.rnd lo hh b rfl
 have e1:m+b.size - 1 - 0=jl:=by omega
 rw [e1] at sl
 refine h.step (by simp) hu (by intro s e;cases e) ?_ ?_ hi
 ·intro j hj hk
  obtain ⟨u',m',k',e1,c⟩:=hk
  rw [hu] at e1
  simp only [Option.some.injEq,Prod.mk.injEq] at e1
  obtain ⟨rfl,rfl,rfl⟩:=e1
  rcases c with ⟨_,_,_,e,_⟩ | ⟨lo',hi',b',e,c⟩
  ·cases e
  ·simp only [Nt.rnd.injEq] at e
   obtain ⟨rfl,rfl,rfl⟩:=e
   exact Ready.set sl hy (Or.inl (by omega))
 ·intro j hj hr
  exact Ready.set sl hy (Or.inr hr)
theorem Spots.done {t:Nt} {sp ss:List Spo} (h:Spots t 0 sp ss) (k:Nat) (x:Spo) (hx:ss[k]? = some x):LeafIs t k x:=by
 have hk:k<t.steps.length:=by rw [←h.lens];exact (List.getElem?_eq_some_iff.1 hx).1
 obtain ⟨p,s,m,e⟩:=leafAt t 0 0 k (Nat.zero_le _) (by omega)
 exact h.leaf p s m k x (Nat.zero_le _) e hx
def spotC (x:Spo):List Value:=[.int .i64 x.1,.int .i64 x.2.1,.bool x.2.2]
def spotsC (l:List Spo):List Value:=(l.map spotC).flatten
theorem spotsC_length (l:List Spo):(spotsC l).length=l.length*3:=by
 induction l with
 | nil=>rfl
 | cons x r ih =>
  have:spotsC (x::r)=spotC x++spotsC r:=by simp [spotsC]
  rw [this,List.length_append,ih];simp [spotC];omega
theorem spotsC_append (a b:List Spo):spotsC (a++b)=spotsC a++spotsC b:=by simp [spotsC]
theorem spotsC_get:∀(M:List Spo) (i j:Nat) (x:Spo),M[i]? = some x→j<3→(spotsC M)[i*3+j]? = (spotC x)[j]?:=by
 intro M
 induction M with
 | nil=>intro i j x h;simp at h
 | cons y r ih =>
  intro i j x h hj
  have e:spotsC (y::r)=spotC y++spotsC r:=by simp [spotsC]
  have hl:(spotC y).length=3:=rfl
  rw [e]
  cases i with
  | zero=>simp at h;subst h;rw [List.getElem?_append_left (by omega)];simp
  | succ i =>
   simp at h
   rw [List.getElem?_append_right (by omega),hl]
   have:(i+1)*3+j - 3=i*3+j:=by omega
   rw [this];exact ih i j x h hj
theorem spots_split {abs:List Spo} {i:Nat} {x:Spo} (h:abs[i]? = some x) (y:Spo):∃p q,spotsC abs=spotsC p++(spotC x++spotsC q)∧spotsC (abs.set i y)=spotsC p++(spotC y++spotsC q)∧p.length=i:=by
 obtain ⟨hi,hx⟩:=List.getElem?_eq_some_iff.1 h
 refine ⟨abs.take i,abs.drop (i+1),?_,?_,by simp;omega⟩
 ·have e:abs=abs.take i++(x::abs.drop (i+1)):=by rw [←hx,List.getElem_cons_drop,List.take_append_drop]
  conv=>lhs;rw [e]
  rw [spotsC_append];simp [spotsC]
 ·have e:abs.set i y=abs.take i++(y::abs.drop (i+1)):=by
   rw [List.set_eq_take_append_cons_drop,if_pos hi]
  rw [e,spotsC_append];simp [spotsC]
theorem spotsC_set {abs:List Spo} {i:Nat} (hi:i<abs.length) (y:Spo):(((spotsC abs).set (i*3) (.int .i64 y.1)).set (i*3+1) (.int .i64 y.2.1)).set (i*3+2) (.bool y.2.2)=spotsC (abs.set i y):=by
 obtain ⟨x,hx⟩:∃x,abs[i]? = some x:=⟨abs[i],by simp [hi]⟩
 obtain ⟨p,q,e1,e2,hp⟩:=spots_split hx y
 rw [e1,e2]
 have hl:(spotsC p).length=i*3:=by rw [spotsC_length,hp]
 rw [List.set_append_right _ _ (by omega),hl,List.set_append_right _ _ (by omega),hl,List.set_append_right _ _ (by omega),hl]
 have:i*3+1 - i*3=1:=by omega
 have h2:i*3+2 - i*3=2:=by omega
 rw [this,h2,Nat.sub_self]
 rfl
theorem Row.spotSet {w:World} {g i:Nat} {e:TypeId} {abs:List Spo} (h:Row w g e (spotsC abs)) (hi:i<abs.length) (y:Spo) :
  Row (((w.setCell ⟨g,i*3,none⟩ (.int .i64 y.1)).setCell ⟨g,i*3+1,none⟩ (.int .i64 y.2.1)).setCell ⟨g,i*3+2,none⟩ (.bool y.2.2)) g e (spotsC (abs.set i y)):=by
 rw [←spotsC_set hi];exact ((h.set _ _).set _ _).set _ _
end Go.Proofs.YtcboiapggnmpfaaGreatDoor
