import Derived.Test.YtcboiapggnmpfabGreatDoorQbw
import Derived.Test.YtcboiapggnmpfabGreatDoorQbp
namespace Go.Proofs.YtcboiapggnmpfabGreatDoor
set_option maxRecDepth 100000
set_option maxHeartbeats 4000000
set_option linter.unusedSimpArgs false
set_option linter.unusedVariables false
open Go.RowKit
def reI (r:Nat→Nat) (x:In):In:=⟨x.op,if x.op=4∨x.op=5 then (r x.a.toNat:Int) else x.a,if x.op=5 then (r x.b.toNat:Int) else x.b,x.test⟩
structure WinK (code c2:List In) (d:Int) (r:Nat→Nat) (bs bs2:List Nat):Prop where
 i:Inb code
 c:∀(k:Nat) x,code[k]? = some x→c2[r k]? = some (reI r x)
 t:∀(k:Nat) x,code[k]? = some x→x.op=0→c2[r k+1]? = some ⟨1,d,0,tst0⟩∧r (k+1)=r k+2
 s:∀(k:Nat) x,code[k]? = some x→(x.op=1∨x.op=2∨x.op=3)→r (k+1)=r k+1
 b:∀b∈bs,b+1<code.length∧∃x,code[b]? = some x∧x.op=0
 b2:∀b,b∈bs2↔∃b'∈bs,b=r b'
def wnT (r:Nat→Nat) (t:Thr):Thr:=⟨(r t.at'.toNat:Int),t.first,t.began,t.h0,t.h1,t.h2,t.h3⟩
theorem wn_hd (r:Nat→Nat) (t:Thr) (i:Nat):(wnT r t).hd i=t.hd i:=by
 match i with
 | 0=>rfl
 | 1=>rfl
 | 2=>rfl
 | (i+3)=>rfl
theorem wn_held (r:Nat→Nat) (hand:Nmb) (t:Thr) (p:Int) (an:Nat):heldS hand (wnT r t) p an=heldS hand t p an:=by
 unfold heldS
 rw [wn_hd]
theorem wn_so (r:Nat→Nat) (hand:Nmb) (t:Thr) (an:Nat) (x:Tst):soS hand (wnT r t) an x=soS hand t an x:=by
 unfold soS rsideS valS
 simp only [wn_held]
theorem wn_thread (r:Nat→Nat) (hand:Nmb) (t:Thr) (a:Int) (an:Nat):threadS hand (wnT r t) a an=threadS hand t a an:=by
 unfold threadS
 simp only [wn_held]
 rfl
theorem wn_nx {code c2:List In} {d:Int} {r:Nat→Nat} {bs bs2:List Nat} (h:WinK code c2 d r bs bs2) (hand:Nmb) (t:Thr) {a:Int} (h0:0≤a) {x:In} (hx:code[a.toNat]? = some x) (ho:¬x.op=0) (an:Nat) (q:Int×Nat):q∈nxS hand (wnT r t) (reI r x) ((r a.toNat:Nat):Int) an↔∃p∈nxS hand t x a an,q=((r p.1.toNat:Int),p.2):=by
 unfold nxS
 rw [wn_so]
 show q∈(if x.op=0 then [] else if x.op=1 then (if hand.e.at' - t.began≤(reI r x).a then [(((r a.toNat:Nat):Int)+1,an)] else []) else if x.op=2 then (if soS hand t an x.test=true then [(((r a.toNat:Nat):Int)+1,an)] else []) else if x.op=3 then [(((r a.toNat:Nat):Int)+1,an ||| bitN (reI r x).a)] else if x.op=4 then [((reI r x).a,an)] else if x.op=5 then [((reI r x).a,an),((reI r x).b,an)] else [])↔_
 have e1:(x.op=1∨x.op=2∨x.op=3)→((r a.toNat:Nat):Int)+1=((r (a+1).toNat:Nat):Int):=by
  intro hh
  rw [show (a+1).toNat=a.toNat+1 by omega,h.s _ x hx hh]
  omega
 rw [if_neg ho,if_neg ho]
 by_cases h1:x.op=1
 ·have ea:(reI r x).a=x.a:=by simp [reI,h1]
  rw [if_pos h1,if_pos h1,ea,e1 (Or.inl h1)]
  by_cases hc:hand.e.at' - t.began≤x.a
  ·simp [hc]
  ·simp [hc]
 rw [if_neg h1,if_neg h1]
 by_cases h2:x.op=2
 ·rw [if_pos h2,if_pos h2,e1 (Or.inr (Or.inl h2))]
  by_cases hc:soS hand t an x.test=true
  ·simp [hc]
  ·simp [hc]
 rw [if_neg h2,if_neg h2]
 by_cases h3:x.op=3
 ·have ea:(reI r x).a=x.a:=by simp [reI,h3]
  rw [if_pos h3,if_pos h3,ea,e1 (Or.inr (Or.inr h3))]
  simp
 rw [if_neg h3,if_neg h3]
 by_cases h4:x.op=4
 ·have ea:(reI r x).a=(r x.a.toNat:Int):=by simp [reI,h4]
  rw [if_pos h4,if_pos h4,ea]
  simp
 rw [if_neg h4,if_neg h4]
 by_cases h5:x.op=5
 ·have ea:(reI r x).a=(r x.a.toNat:Int):=by simp [reI,h5]
  have eb:(reI r x).b=(r x.b.toNat:Int):=by simp [reI,h5]
  rw [if_pos h5,if_pos h5,ea,eb]
  simp
 rw [if_neg h5,if_neg h5]
 simp
theorem nxS_win (hand:Nmb) (t:Thr) (d a:Int) (an:Nat):nxS hand t ⟨1,d,0,tst0⟩ a an=if hand.e.at' - t.began≤d then [(a+1,an)] else []:=by
 simp [nxS]
def TkW (code:List In) (t:Thr):Prop:=AtTk code t∧∃x,code[t.at'.toNat]? = some x∧x.op=0
theorem wn_rc {code c2:List In} {d:Int} {r:Nat→Nat} {bs bs2:List Nat} (h:WinK code c2 d r bs bs2) {hand:Nmb} {t:Thr} (ht:TkW code t) {b:Int} {an:Nat}:RcT c2 hand (wnT r t) b an↔(b=(r t.at'.toNat:Int)+1∧an=0)∨(hand.e.at' - t.began≤d∧∃a,b=(r a.toNat:Int)∧RcT code hand t a an):=by
 obtain ⟨hat,x0,hx0,h00⟩:=ht
 obtain ⟨ht1,ht2⟩:=h.t _ x0 hx0 h00
 have ht0:0≤t.at':=hat.1
 have es:(t.at'+1).toNat=t.at'.toNat+1:=by omega
 constructor
 ·intro hr
  induction hr with
  | zero=>exact Or.inl ⟨rfl,rfl⟩
  | next h1 h2 h3 ih =>
   rename_i b0 an0 x b bn
   rcases ih with ⟨rfl,rfl⟩ | ⟨hw,a,rfl,hra⟩
   ·rw [show (((r t.at'.toNat:Nat):Int)+1).toNat=r t.at'.toNat+1 by omega,ht1] at h2
    cases h2
    rw [nxS_win] at h3
    split at h3
    ·rename_i hw
     simp at h3
     obtain ⟨rfl,rfl⟩:=h3
     refine Or.inr ⟨hw,t.at'+1,?_,.zero⟩
     rw [es,ht2];omega
    ·simp at h3
   ·obtain ⟨r1,r2,_⟩:=rc_in h.i hat hra
    obtain ⟨y,hy⟩:∃y,code[a.toNat]? = some y:=⟨code[a.toNat]'(by omega),by simp⟩
    rw [show ((r a.toNat:Nat):Int).toNat=r a.toNat by omega,h.c _ y hy] at h2
    cases h2
    by_cases ho:y.op=0
    ·rw [nxS_0 (Or.inl (show (reI r y).op=0 from ho))] at h3
     simp at h3
    ·obtain ⟨p,hp,e⟩:=(wn_nx h hand t r1 hy ho _ _).1 h3
     obtain ⟨p1,p2⟩:=p
     cases e
     exact Or.inr ⟨hw,p1,rfl,.next hra hy hp⟩
 ·have hz:RcT c2 hand (wnT r t) ((r t.at'.toNat:Int)+1) 0:=RcT.zero
  rintro (⟨rfl,rfl⟩ | ⟨hw,a,rfl,hra⟩)
  ·exact hz
  ·induction hra with
   | zero =>
    rw [es,ht2]
    refine .next hz (x:=⟨1,d,0,tst0⟩) ?_ ?_
    ·rw [show (((r t.at'.toNat:Nat):Int)+1).toNat=r t.at'.toNat+1 by omega];exact ht1
    ·rw [nxS_win,if_pos (show hand.e.at' - (wnT r t).began≤d from hw)]
     simp
     omega
   | next h1 h2 h3 ih =>
    rename_i a an x b bn
    obtain ⟨r1,_,_⟩:=rc_in h.i hat h1
    have ho:¬x.op=0:=by
     intro ho
     rw [nxS_0 (Or.inl ho)] at h3
     simp at h3
    exact .next ih (by rw [show ((r a.toNat:Nat):Int).toNat=r a.toNat by omega];exact h.c _ x h2) ((wn_nx h hand t r1 h2 ho _ _).2 ⟨_,h3,rfl⟩)
theorem wn_go {code c2:List In} {d:Int} {r:Nat→Nat} {bs bs2:List Nat} (h:WinK code c2 d r bs bs2) {hand:Nmb} {t:Thr} (ht:TkW code t) (u:Thr):(GoW c2 hand (wnT r t) u↔hand.e.at' - t.began≤d∧∃v,GoW code hand t v∧u=wnT r v)∧(GoE c2 hand (wnT r t) u↔hand.e.at' - t.began≤d∧GoE code hand t u):=by
 obtain ⟨hat,x0,hx0,h00⟩:=id ht
 obtain ⟨ht1,ht2⟩:=h.t _ x0 hx0 h00
 have e0:c2[(wnT r t).at'.toNat]? = some (reI r x0):=by
  show c2[((r t.at'.toNat:Nat):Int).toNat]? = _
  rw [show ((r t.at'.toNat:Nat):Int).toNat=r t.at'.toNat by omega]
  exact h.c _ x0 hx0
 have ea:(reI r x0).a=x0.a:=by simp [reI,h00]
 have key:∀(b:Int) (an:Nat) (y:In),RcT c2 hand (wnT r t) b an→c2[b.toNat]? = some y→(y.op=0∨y.op=6)→hand.e.at' - t.began≤d∧∃a z,b=(r a.toNat:Int)∧RcT code hand t a an∧code[a.toNat]? = some z∧y=reI r z:=by
  intro b an y hr hy ho
  rcases (wn_rc h ht).1 hr with ⟨rfl,rfl⟩ | ⟨hw,a,rfl,hra⟩
  ·rw [show (((r t.at'.toNat:Nat):Int)+1).toNat=r t.at'.toNat+1 by omega,ht1] at hy
   cases hy
   simp at ho
  ·obtain ⟨r1,r2,_⟩:=rc_in h.i hat hra
   obtain ⟨z,hz⟩:∃z,code[a.toNat]? = some z:=⟨code[a.toNat]'(by omega),by simp⟩
   rw [show ((r a.toNat:Nat):Int).toNat=r a.toNat by omega,h.c _ z hz] at hy
   cases hy
   exact ⟨hw,a,z,rfl,hra,hz,rfl⟩
 refine ⟨⟨?_,?_⟩,⟨?_,?_⟩⟩
 ·rintro ⟨x,hx,hk,b,an,y,hr,hy,ho,rfl⟩
  rw [e0] at hx
  cases hx
  rw [ea] at hk
  obtain ⟨hw,a,z,rfl,hra,hz,rfl⟩:=key b an y hr hy (Or.inl ho)
  exact ⟨hw,threadS hand t a an,⟨x0,hx0,hk,a,an,z,hra,hz,ho,rfl⟩,by rw [wn_thread];rfl⟩
 ·rintro ⟨hw,v,⟨x,hx,hk,a,an,y,hr,hy,ho,rfl⟩,rfl⟩
  rw [hx0] at hx
  cases hx
  refine ⟨reI r x0,e0,by rw [ea];exact hk,(r a.toNat:Int),an,reI r y,(wn_rc h ht).2 (Or.inr ⟨hw,a,rfl,hr⟩),?_,ho,?_⟩
  ·rw [show ((r a.toNat:Nat):Int).toNat=r a.toNat by omega];exact h.c _ y hy
  ·rw [wn_thread];rfl
 ·rintro ⟨x,hx,hk,b,an,y,hr,hy,ho,rfl⟩
  rw [e0] at hx
  cases hx
  rw [ea] at hk
  obtain ⟨hw,a,z,rfl,hra,hz,rfl⟩:=key b an y hr hy (Or.inr ho)
  exact ⟨hw,x0,hx0,hk,a,an,z,hra,hz,ho,wn_thread _ _ _ _ _⟩
 ·rintro ⟨hw,x,hx,hk,a,an,y,hr,hy,ho,rfl⟩
  rw [hx0] at hx
  cases hx
  refine ⟨reI r x0,e0,by rw [ea];exact hk,(r a.toNat:Int),an,reI r y,(wn_rc h ht).2 (Or.inr ⟨hw,a,rfl,hr⟩),?_,ho,(wn_thread _ _ _ _ _).symm⟩
  rw [show ((r a.toNat:Nat):Int).toNat=r a.toNat by omega];exact h.c _ y hy
theorem wn_new (r:Nat→Nat) (b:Nat) (hand:Nmb):newT ((r b:Nat):Int) hand=wnT r (newT (b:Int) hand):=by
 unfold newT wnT
 simp
theorem goW_began {code:List In} {hand:Nmb} {t u:Thr} (h:GoW code hand t u):u.began=t.began:=by
 obtain ⟨x,hx,hk,a,an,y,hr,hy,ho,rfl⟩:=h
 rfl
theorem goE_began {code:List In} {hand:Nmb} {t u:Thr} (h:GoE code hand t u):u.began=t.began:=by
 obtain ⟨x,hx,hk,a,an,y,hr,hy,ho,rfl⟩:=h
 rfl
theorem goW_tkw {code:List In} (hI:Inb code) {hand:Nmb} {t u:Thr} (ht:AtTk code t) (h:GoW code hand t u):TkW code u:=by
 refine ⟨goW_at hI ht h,?_⟩
 obtain ⟨x,_,_,a,an,y,hr,hy,ho,rfl⟩:=h
 exact ⟨y,hy,ho⟩
theorem WinK.new {code c2:List In} {d:Int} {r:Nat→Nat} {bs bs2:List Nat} (h:WinK code c2 d r bs bs2) {b:Nat} (hb:b∈bs) (hand:Nmb):TkW code (newT (b:Int) hand):=by
 obtain ⟨h1,x,hx,h0⟩:=h.b b hb
 exact ⟨new_at h1,x,by simpa [newT] using hx,h0⟩
theorem wt_tkw {code c2:List In} {d:Int} {r:Nat→Nat} {bs bs2:List Nat} (h:WinK code c2 d r bs bs2) {L:List Evt}:∀(i:Nat) (u:Thr),Wt code bs L i u→TkW code u:=by
 intro i
 induction i with
 | zero=>intro u h;exact h.elim
 | succ i ih =>
  rintro u ⟨e,t,he,ht,hg⟩
  have htk:TkW code t:=by
   rcases ht with ht|⟨b,hb,rfl⟩
   ·exact ih t ht
   ·exact h.new hb _
  exact goW_tkw h.i htk.1 hg
def RiseE (L:List Evt):Prop:=∀(i:Nat) a b,L[i]? = some a→L[i+1]? = some b→a.at'≤b.at'
theorem wt_wn {code c2:List In} {d:Int} (hd:0≤d) {r:Nat→Nat} {bs bs2:List Nat} (h:WinK code c2 d r bs bs2) {L:List Evt} (hL:RiseE L):∀(i:Nat) (e:Evt),L[i]? = some e→∀u,Wt c2 bs2 L (i+1) u↔∃v,Wt code bs L (i+1) v∧e.at' - v.began≤d∧u=wnT r v:=by
 intro i
 induction i with
 | zero =>
  intro e he u
  constructor
  ·rintro ⟨e',t,he',ht,hg⟩
   rw [he] at he'
   cases he'
   rcases ht with ht|⟨b,hb,rfl⟩
   ·exact ht.elim
   ·obtain ⟨b',hb',rfl⟩:=(h.b2 b).1 hb
    rw [wn_new] at hg
    obtain ⟨hw,v,hv,rfl⟩:=(wn_go h (h.new hb' _) u).1.1 hg
    exact ⟨v,⟨e,_,he,Or.inr ⟨b',hb',rfl⟩,hv⟩,by rw [goW_began hv];exact hw,rfl⟩
  ·rintro ⟨v,⟨e',t,he',ht,hg⟩,hw,rfl⟩
   rw [he] at he'
   cases he'
   rw [goW_began hg] at hw
   rcases ht with ht|⟨b,hb,rfl⟩
   ·exact ht.elim
   ·exact ⟨e,wnT r (newT (b:Int) ⟨(0:Nat),e⟩),he,Or.inr ⟨r b,(h.b2 _).2 ⟨b,hb,rfl⟩,(wn_new r b _).symm⟩,(wn_go h (h.new hb _) _).1.2 ⟨hw,v,hg,rfl⟩⟩
 | succ i ih =>
  intro e he u
  obtain ⟨e0,he0⟩:∃e0,L[i]? = some e0:=⟨L[i]'(by have:=(List.getElem?_eq_some_iff.1 he).1;omega),by simp⟩
  have hrise:=hL i e0 e he0 he
  constructor
  ·rintro ⟨e',t,he',ht,hg⟩
   rw [he] at he'
   cases he'
   rcases ht with ht|⟨b,hb,rfl⟩
   ·obtain ⟨t',ht',hw',rfl⟩:=(ih e0 he0 t).1 ht
    obtain ⟨hw,v,hv,rfl⟩:=(wn_go h (wt_tkw h _ t' ht') u).1.1 hg
    exact ⟨v,⟨e,t',he,Or.inl ht',hv⟩,by rw [goW_began hv];exact hw,rfl⟩
   ·obtain ⟨b',hb',rfl⟩:=(h.b2 b).1 hb
    rw [wn_new] at hg
    obtain ⟨hw,v,hv,rfl⟩:=(wn_go h (h.new hb' _) u).1.1 hg
    exact ⟨v,⟨e,_,he,Or.inr ⟨b',hb',rfl⟩,hv⟩,by rw [goW_began hv];exact hw,rfl⟩
  ·rintro ⟨v,⟨e',t,he',ht,hg⟩,hw,rfl⟩
   rw [he] at he'
   cases he'
   rw [goW_began hg] at hw
   rcases ht with ht|⟨b,hb,rfl⟩
   ·exact ⟨e,wnT r t,he,Or.inl ((ih e0 he0 _).2 ⟨t,ht,by omega,rfl⟩),(wn_go h (wt_tkw h _ t ht) _).1.2 ⟨hw,v,hg,rfl⟩⟩
   ·exact ⟨e,wnT r (newT (b:Int) ⟨((i+1:Nat):Int),e⟩),he,Or.inr ⟨r b,(h.b2 _).2 ⟨b,hb,rfl⟩,(wn_new r b _).symm⟩,(wn_go h (h.new hb _) _).1.2 ⟨hw,v,hg,rfl⟩⟩
theorem et_wn {code c2:List In} {d:Int} (hd:0≤d) {r:Nat→Nat} {bs bs2:List Nat} (h:WinK code c2 d r bs bs2) {L:List Evt} (hL:RiseE L) {i:Nat} {e:Evt} (he:L[i]? = some e) (u:Thr):Et c2 bs2 L i u↔Et code bs L i u∧e.at' - u.began≤d:=by
 constructor
 ·rintro ⟨e',t,he',ht,hg⟩
  rw [he] at he'
  cases he'
  rcases ht with ht|⟨b,hb,rfl⟩
  ·cases i with
   | zero=>exact ht.elim
   | succ i =>
    obtain ⟨e0,he0⟩:∃e0,L[i]? = some e0:=⟨L[i]'(by have:=(List.getElem?_eq_some_iff.1 he).1;omega),by simp⟩
    obtain ⟨t',ht',hw',rfl⟩:=(wt_wn hd h hL i e0 he0 t).1 ht
    obtain ⟨hw,hv⟩:=(wn_go h (wt_tkw h _ t' ht') u).2.1 hg
    exact ⟨⟨e,t',he,Or.inl ht',hv⟩,by rw [goE_began hv];exact hw⟩
  ·obtain ⟨b',hb',rfl⟩:=(h.b2 b).1 hb
   rw [wn_new] at hg
   obtain ⟨hw,hv⟩:=(wn_go h (h.new hb' _) u).2.1 hg
   exact ⟨⟨e,_,he,Or.inr ⟨b',hb',rfl⟩,hv⟩,by rw [goE_began hv];exact hw⟩
 ·rintro ⟨⟨e',t,he',ht,hg⟩,hw⟩
  rw [he] at he'
  cases he'
  rw [goE_began hg] at hw
  rcases ht with ht|⟨b,hb,rfl⟩
  ·cases i with
   | zero=>exact ht.elim
   | succ i =>
    obtain ⟨e0,he0⟩:∃e0,L[i]? = some e0:=⟨L[i]'(by have:=(List.getElem?_eq_some_iff.1 he).1;omega),by simp⟩
    have hrise:=hL i e0 e he0 he
    exact ⟨e,wnT r t,he,Or.inl ((wt_wn hd h hL i e0 he0 _).2 ⟨t,ht,by omega,rfl⟩),(wn_go h (wt_tkw h _ t ht) _).2.2 ⟨hw,hg⟩⟩
  ·exact ⟨e,wnT r (newT (b:Int) ⟨(i:Int),e⟩),he,Or.inr ⟨r b,(h.b2 _).2 ⟨b,hb,rfl⟩,(wn_new r b _).symm⟩,(wn_go h (h.new hb _) _).2.2 ⟨hw,hg⟩⟩
theorem goW_first {code:List In} {hand:Nmb} {t u:Thr} (h:GoW code hand t u):u.first=t.first:=by
 obtain ⟨x,hx,hk,a,an,y,hr,hy,ho,rfl⟩:=h
 rfl
theorem goE_first {code:List In} {hand:Nmb} {t u:Thr} (h:GoE code hand t u):u.first=t.first:=by
 obtain ⟨x,hx,hk,a,an,y,hr,hy,ho,rfl⟩:=h
 rfl
theorem wt_first {code:List In} {bs:List Nat} {L:List Evt}:∀(i:Nat) (u:Thr),Wt code bs L i u→u.first<i:=by
 intro i
 induction i with
 | zero=>intro u h;exact h.elim
 | succ i ih =>
  rintro u ⟨e,t,he,ht,hg⟩
  rw [goW_first hg]
  rcases ht with ht|⟨b,_,rfl⟩
  ·have:=ih t ht;omega
  ·show (i:Int)<_;omega
theorem dot_run {sc:List Int}:∀(L:List Evt) (n:Nat) (last:Int),GoesE sc last L→(∀i e,L[i]? = some e→(feedS sc ncode10 [1] 200 200 (runS sc ncode10 [1] 200 200 ⟨[],n,last,false⟩ (L.take i)) e).2.2=0)∧(∀i,i<L.length→(outS sc ncode10 [1] 200 200 ⟨[],n,last,false⟩ L)[i]? = some [⟨(n+i:Nat),(n+i:Nat),-1,-1,-1,-1⟩]):=by
 intro L
 induction L with
 | nil=>intro n last _;exact ⟨fun i e h=>by simp at h,fun i h=>by simp at h⟩
 | cons x L ih =>
  intro n last h
  obtain ⟨_,hg,ht,hr⟩:=h
  have hf:=dot_feed (sc:=sc) (n:=n) hg ht
  obtain ⟨i1,i2⟩:=ih (n+1) x.at' hr
  refine ⟨?_,?_⟩
  ·intro i e hi
   match i,hi with
   | 0,hi =>
    simp only [List.getElem?_cons_zero,Option.some.injEq] at hi
    subst hi
    show (feedS sc ncode10 [1] 200 200 ⟨[],n,last,false⟩ x).2.2=0
    rw [hf]
   | i+1,hi =>
    rw [List.take_succ_cons,runS_cons,hf]
    exact i1 i e (by simpa using hi)
  ·intro i hi
   unfold outS
   rw [hf]
   match i,hi with
   | 0,_=>rfl
   | i+1,hi =>
    rw [List.getElem?_cons_succ,i2 i (by simpa using hi),show n+1+i=n+(i+1) by omega]
theorem dot_pat {L:List Evt} (h:GoesE (bI ⟨#[49,49,49]⟩) 0 L):PatK ⟨#[46]⟩ ncode10 L:=by
 refine ⟨nprog10,by decide,?_⟩
 rw [dot_begins]
 exact (dot_run L 0 0 h).1
theorem awake_any (p:Option Addr) (ec:Nat) (L:List Evt) (w:World) (he:EvsP w p L) (hge:∀g,p=some ⟨g,0,none⟩→g<w.heap.size) (hL:L.length≤1000) (hev:∀e∈L,EvOk e) (hgo:GoesE (bI ⟨#[49,49,49]⟩) 0 L) :
  Calls Tryz.prog 9 #[.slice p L.length ec] w fun e w'=>e=.returned (.bool true)∧Nw w w':=by
 have HFO:Hid (Calls Tryz.prog 7 #[.string ⟨#[46]⟩,.slice p L.length ec] w fun e w'=>∃v hs,e=.returned (.tuple #[v,.bool true])∧Mds w' w.heap.size v hs∧hs.map (·.2)=outS (bI ⟨#[49,49,49]⟩) ncode10 (beginsS ncode10) 200 200 ⟨[],0,0,false⟩ L∧Nw w w'):=found_any _ _ p ec L w (dot_pat hgo) he hge hL hev
 have HDO:Hid (∀i,i<L.length→(outS (bI ⟨#[49,49,49]⟩) ncode10 (beginsS ncode10) 200 200 ⟨[],0,0,false⟩ L)[i]? = some [⟨(i:Nat),(i:Nat),-1,-1,-1,-1⟩]):=by
  intro i hi
  rw [dot_begins,(dot_run L 0 0 hgo).2 i hi,Nat.zero_add]
 have HLO:Hid ((outS (bI ⟨#[49,49,49]⟩) ncode10 (beginsS ncode10) 200 200 ⟨[],0,0,false⟩ L).length=L.length):=outS_len _ _ _ _ _ _ _
 clear he hge hev hgo
 generalize outS (bI ⟨#[49,49,49]⟩) ncode10 (beginsS ncode10) 200 200 ⟨[],0,0,false⟩ L=O at HFO HDO HLO
 obtain ⟨dd,hu,hd⟩:=Option.map_eq_some_iff.1 Tryz.rowMt'
 go_enter Tryz.func9,Tryz.ntmps9
 go_wp2_with fail
 refine HFO.out.mono ?_
 rintro e1 w1 ⟨v,hs,rfl,hm,ho,k1⟩
 obtain ⟨vp,vc,rfl⟩:=ownsLenX hm.row
 have hlen:hs.length=L.length:=by rw [←HLO.out,←ho];simp
 have HM:Hid (Mds w1 w.heap.size (.slice vp L.length vc) hs):=by rw [hlen] at hm;exact hm
 have HO:Hid (hs.map (·.2)=O):=ho
 have HLN:Hid (hs.length=L.length):=hlen
 have K1:Hid (Nw w w1):=k1
 rw [hlen]
 clear hm ho k1 HFO hlen
 go_wp2
 go_loopg [5] L.length (fun m v5 wr=>∃i:Nat,v5=.int .i64 i∧m=L.length - i∧i≤L.length∧Nw w1 wr)
 case atStart=>exact ⟨0,rfl,rfl,by omega,Kp.refl _ _⟩
 case round =>
  obtain ⟨i,rfl,hmm,hil,hN⟩:=hrel
  have HMM:Hid (_=L.length - i):=hmm
  have HN:Hid (Nw w1 wr):=hN
  clear hmm
  by_cases hi:i<L.length
  ·obtain ⟨x,hx⟩:∃x,hs[i]? = some x:=⟨hs[i]'(by rw [HLN.out];exact hi),by simp [HLN.out,hi]⟩
   obtain ⟨mv,ml⟩:=x
   have hml:ml=[⟨i,i,-1,-1,-1,-1⟩]:=by
    have h1:(hs.map (·.2))[i]? = some ml:=by simp [hx]
    rw [HO.out,HDO.out i hi] at h1
    simpa using h1.symm
   subst hml
   have hme:=HM.out.each _ (List.mem_of_getElem? hx)
   obtain ⟨gm,cm,e2⟩:=owns_some hme (by simp)
   simp only at e2
   subst e2
   have HCA:Hid (∀W,Nw wr W→∀ga,vp=some ⟨ga,0,none⟩→W.cell? ⟨ga,i,none⟩=some (.slice (some ⟨gm,0,none⟩) 1 cm)):=by
    intro W kW ga ega
    subst ega
    have hr:=owns_kp HM.out.row (HN.out.trans kW) (fun _ _ h=>h)
    rw [HLN.out] at hr
    exact owns_cell hr i (by simp [hx])
   have HRA:Hid (∀W,Nw wr W→W.rangeAt gm 0 (mtC ⟨i,i,-1,-1,-1,-1⟩)):=by
    intro W kW j v hv
    rw [Nat.zero_add]
    exact owns_cell (owns_kp hme (HN.out.trans kW) (fun _ _ h=>h)) j hv
   have hmo:MtOk ⟨i,i,-1,-1,-1,-1⟩:=by constructor <;> (unfold In64;constructor <;> (simp only [];omega))
   have HMO:Hid (MtOk ⟨i,i,-1,-1,-1,-1⟩):=hmo
   have hrow:=HM.out.row
   rw [HLN.out] at hrow
   obtain ⟨ga,ca,e3⟩:=owns_some hrow (by omega)
   simp only [Value.slice.injEq,true_and] at e3
   obtain ⟨rfl,rfl⟩:=e3
   have HCA2:Hid (∀W,Nw wr W→W.cell? ⟨ga,i,none⟩=some (.slice (some ⟨gm,0,none⟩) 1 cm)):=fun W kW=>HCA.out W kW ga rfl
   clear HCA
   have HCA:=HCA2
   clear HCA2 hme hrow hx hmo hN
   have hii:(i:Int)<L.length:=by omega
   have hz:0≤(i:Int):=by omega
   go_wp2
   refine wp_region_held_drew (S:=fun W=>Nw wr W) (by kernel_rfl) ((Kp.refl _ _).drew) (fun hHeld => ?_)
   refine tM 0 rfl (fun W hSW=>by (try dsimp only at hSW);go_simp;rw []) hHeld ?_
   refine tM 1 rfl (fun W hSW=>by (try dsimp only at hSW);go_simp;rw []) hHeld ?_
   refine tM 2 rfl (fun W hSW=>by (try dsimp only at hSW);go_simp;rw []) hHeld ?_
   refine tM 3 rfl (fun W hSW=>by (try dsimp only at hSW);have hq:=HCA.out W hSW;go_simp;rw []) hHeld ?_
   refine tM 4 rfl (fun W hSW=>by (try dsimp only at hSW);go_simp;rw []) hHeld ?_
   refine tM 5 rfl (fun W hSW=>by (try dsimp only at hSW);go_simp;rw []) hHeld ?_
   refine tM 6 rfl (fun W hSW=>by (try dsimp only at hSW);go_simp;rw []) hHeld ?_
   refine tM 7 rfl (fun W hSW=>by (try dsimp only at hSW);go_simp;rw []) hHeld ?_
   refine tM 8 rfl (fun W hSW=>by (try dsimp only at hSW);go_simp;rw []) hHeld ?_
   refine tM 9 rfl (fun W hSW=>by (try dsimp only at hSW);go_simp;rw []) hHeld ?_
   refine tM 10 rfl (fun W hSW=>by (try dsimp only at hSW);have hq:=HCA.out W hSW;go_simp;rw []) hHeld ?_
   refine tM 11 rfl (fun W hSW=>by (try dsimp only at hSW);go_simp;rw []) hHeld ?_
   refine tN (i:=12) (v:=_) rfl (yieldsIf_load_mid (by rfl) 34 _ rfl gm (0) rfl (mtC ⟨i,i,-1,-1,-1,-1⟩) dd HRA.out hu hd (size_mt _)) hHeld ?_
   refine tM 13 rfl (fun W hSW=>by (try dsimp only at hSW);go_simp;rw []) hHeld ?_
   refine tM 14 rfl (fun W hSW=>by (try dsimp only at hSW);go_simp;rw []) hHeld ?_
   refine wpAnyH_ready (rs:=[15]) (by kernel_rfl) (by simp) ?_
   refine consL rfl (fun K hK => ?_) AllReadyH.nil
   go_simp
   refine (none_any _).mono ?_
   rintro e5 w5 ⟨rfl,k5⟩
   have k8:Nw wr w5:=((Kp.refl _ _).drew).trans k5
   try dsimp only
   refine hK.out _ _ k8 (fun _ => ?_)
   clear hK K
   try simp only [Act.put,sA,sZ,sS]
   refine tM 16 rfl (fun W hSW=>by (try dsimp only at hSW);go_simp;rw []) k8 ?_
   refine tN (i:=17) (v:=.bool false) rfl (Or.inl ⟨by rfl,fun W hSW=>exec_neqS (u:=⟨i,i,-1,-1,-1,-1⟩) rfl rfl rfl HMO.out W⟩) k8 ?_
   refine tM 18 rfl (fun W hSW=>by (try dsimp only at hSW);go_simp;rw []) k8 ?_
   refine wpAnyH_done (by kernel_rfl) ?_ _
   have K5:Hid (Nw w1 w5):=HN.out.trans k8
   clear k5 k8 HCA HRA
   go_wp2
   go_roundg (L.length - (i+1))
   case measure=>rw [HMM.out];omega
   case rel=>exact ⟨i+1,by simp,rfl,by omega,K5.out⟩
  ·have hii:¬(i:Int)<L.length:=by omega
   go_wp2
   go_ret
   exact ⟨by simp,K1.out.trans HN.out⟩
def namesC:List Value:=[.string ⟨#[97,65,32,98,91,120,62,65,120,93]⟩,.string ⟨#[97,65,46,42,98,91,120,62,65,120,93]⟩,.string ⟨#[97,65,46,42,98,66,91,120,62,65,120,93,46,42,99,91,120,60,66,120,93]⟩,.string ⟨#[40,97,65,124,97,66,41,98,42,99]⟩,.string ⟨#[40,97,65,32,98,124,98,66,32,97,41,99,67]⟩,.string ⟨#[97,65,40,98,91,120,61,65,120,93,124,99,91,120,35,65,120,93,41,43]⟩,.string ⟨#[97,65,91,120,62,49,93,98,123,48,50,125,99,66,91,116,60,65,116,43,57,93]⟩,.string ⟨#[40,97,65,124,97,65,46,41,98,66,91,120,60,65,120,42,50,93,64,50,48]⟩,.string ⟨#[99,65,46,123,48,51,125,99,66,91,120,61,65,120,45,49,93]⟩,.string ⟨#[97,65,46,42,97,66,91,120,62,65,120,93,64,49,50]⟩]
def LenC (n:Int) (c:Crw):Prop:=c.most=n∧(c.l.length:Int)≤n
theorem LenC.add {n:Int} {c:Crw} (h:LenC n c) (t:Thr):LenC n (addC c t):=by
 refine ⟨by rw [addC_most];exact h.1,?_⟩
 have h1:=h.1
 have h2:=h.2
 unfold addC
 split
 ·exact h2
 split
 ·exact h2
 ·have:=plcT_le c.l t
  show (((c.l.take (plcT c.l t)++t::c.l.drop (plcT c.l t)).length:Nat):Int)≤n
  have e:(c.l.take (plcT c.l t)++t::c.l.drop (plcT c.l t)).length=c.l.length+1:=by simp;omega
  rw [e]
  omega
theorem lv_len {n m:Int} (hand:Nmb) (t:Thr) (s:Tn) (a:Int) (an:Nat) (x:In) (h:LenC n s.wait∧LenC m s.ended):LenC n (lvS hand t s a an x).wait∧LenC m (lvS hand t s a an x).ended:=by
 have hr:∀(s:Tn) z (n:Nat),(rchS s z n).wait=s.wait∧(rchS s z n).ended=s.ended:=rchS_wait
 unfold lvS
 split
 ·exact ⟨h.1.add _,h.2⟩
 split
 ·split
  ·rw [(hr _ _ _).1,(hr _ _ _).2];exact h
  ·exact h
 split
 ·split
  ·rw [(hr _ _ _).1,(hr _ _ _).2];exact h
  ·exact h
 split
 ·rw [(hr _ _ _).1,(hr _ _ _).2];exact h
 split
 ·rw [(hr _ _ _).1,(hr _ _ _).2];exact h
 split
 ·rw [(hr _ _ _).1,(hr _ _ _).2,(hr _ _ _).1,(hr _ _ _).2];exact h
 split
 ·exact ⟨h.1,h.2.add _⟩
 ·exact h
theorem goF_len {n m:Int} {code:List In} {hand:Nmb} {t:Thr}:∀(f:Nat) (s:Tn),(LenC n s.wait∧LenC m s.ended)→LenC n (goF code hand t f s).wait∧LenC m (goF code hand t f s).ended:=by
 intro f
 induction f with
 | zero=>intro s h;exact h
 | succ f ih =>
  intro s h
  unfold goF
  split
  ·exact h
  split
  ·exact h
  split
  ·exact h
  ·exact ih _ (lv_len _ _ _ _ _ _ h)
theorem fold_len {n m:Int} {code:List In} {hand:Nmb}:∀(ts:List Thr) (c:Crw×Crw),(LenC n c.1∧LenC m c.2)→LenC n (ts.foldl (goOnS code hand) c).1∧LenC m (ts.foldl (goOnS code hand) c).2:=by
 intro ts
 induction ts with
 | nil=>intro c h;exact h
 | cons t r ih =>
  intro c h
  refine ih _ ?_
  unfold goOnS
  split
  ·exact h
  split
  ·exact goF_len _ _ (by rw [(rchS_wait _ _ _).1,(rchS_wait _ _ _).2];exact h)
  ·exact h
theorem feed_less {sc:List Int} {code:List In} {bs:List Nat} {r:Rst} {e:Evt}:(feedS sc code bs 200 200 r e).2.1.length≤200:=by
 unfold feedS
 split
 ·simp
 split
 ·simp
 split
 ·simp
 ·have h:LenC 200 (stepS code ⟨r.count,e⟩ r.ws bs 200 200).2:=by
   unfold stepS
   exact (fold_len _ _ (fold_len _ _ ⟨⟨rfl,by simp⟩,⟨rfl,by simp⟩⟩)).2
  simp only [List.length_map]
  have:=h.2
  omega
structure MtS (m:Mt):Prop where
 f : -1≤m.first∧m.first≤100
 l : -1≤m.last∧m.last≤100
 h0 : -1≤m.h0∧m.h0≤100
 h1 : -1≤m.h1∧m.h1≤100
 h2 : -1≤m.h2∧m.h2≤100
 h3 : -1≤m.h3∧m.h3≤100
theorem tru_le {L:List Evt} (hL:L.length≤12) {a:Nmb} (h:a=nmb0∨∃n:Nat,a.n=n∧L[n]? = some a.e) : -1≤a.n∧a.n≤100:=by
 rcases h with rfl|⟨n,h,hn⟩
 ·simp [nmb0]
 ·have:=(List.getElem?_eq_some_iff.1 hn).1
  omega
theorem out_small {sc:List Int} {code:List In} {bs:List Nat} {L:List Evt} (hL:L.length≤12) (hI:Inb code) (hb:∀b∈bs,b+1<code.length)
  (hok:∀i e,L[i]? = some e→(feedS sc code bs 200 200 (runS sc code bs 200 200 ⟨[],0,0,false⟩ (L.take i)) e).2.2=0):∀l∈outS sc code bs 200 200 ⟨[],0,0,false⟩ L,l.length≤200∧∀m∈l,MtS m:=by
 intro l hl
 obtain ⟨i,hi⟩:=List.mem_iff_getElem?.1 hl
 have hil:i<L.length:=by have:=(List.getElem?_eq_some_iff.1 hi).1;rwa [outS_len] at this
 obtain ⟨e,he⟩:∃e,L[i]? = some e:=⟨L[i],by simp [hil]⟩
 rw [outS_get _ _ _ _ _ L _ i e he] at hi
 cases hi
 refine ⟨feed_less,?_⟩
 obtain ⟨E,h1,h2,h3⟩:=out_mean hI hb hok i e he
 intro m hm
 rw [h1] at hm
 obtain ⟨u,hu,rfl⟩:=List.mem_map.1 hm
 have ht:=et_tru hI hb ((h3 u).1 hu)
 obtain ⟨n,ef,f1,f2,_⟩:=ht.f
 have hn:=(List.getElem?_eq_some_iff.1 f2).1
 refine ⟨?_,?_,tru_le hL (ht.h 0),tru_le hL (ht.h 1),tru_le hL (ht.h 2),tru_le hL (ht.h 3)⟩
 ·show -1≤u.first∧u.first≤100;omega
 ·show (-1:Int)≤(i:Int)∧(i:Int)≤100;omega
theorem MtS.ok {m:Mt} (h:MtS m):MtOk m:=by
 obtain ⟨a,b,c,d,e,f⟩:=h
 constructor <;> (unfold In64;omega)
deriving instance DecidableEq for In
def rhoL:List In→Nat→List Nat
 | [],r=>[r]
 | x::l,r=>r::rhoL l (if x.op=0 then r+2 else r+1)
def rhoF (code:List In) (k:Nat):Nat:=(rhoL code 0).getD k 0
theorem rhoL_next:∀(l:List In) (r k:Nat) (x:In),l[k]? = some x→(rhoL l r).getD (k+1) 0=(rhoL l r).getD k 0+(if x.op=0 then 2 else 1):=by
 intro l
 induction l with
 | nil=>intro r k x h;simp at h
 | cons y l ih =>
  intro r k x h
  cases k with
  | zero =>
   simp at h
   subst h
   cases l with
   | nil=>simp only [rhoL,List.getD];split <;> simp
   | cons z l=>simp only [rhoL,List.getD];split <;> simp
  | succ k =>
   have:=ih (if y.op=0 then r+2 else r+1) k x (by simpa using h)
   simpa [rhoL,List.getD] using this
def winG (rF:Nat→Nat) (d:Int) (c2:List In):List In→Nat→Bool
 | [],_=>true
 | x::l,r=>decide (c2[r]? = some (reI rF x))&&(if x.op=0 then decide (c2[r+1]? = some ⟨1,d,0,tst0⟩)&&winG rF d c2 l (r+2) else winG rF d c2 l (r+1))
theorem winG_at {rF:Nat→Nat} {d:Int} {c2:List In}:∀(l:List In) (r:Nat),winG rF d c2 l r=true→∀(k:Nat) x,l[k]? = some x→c2[(rhoL l r).getD k 0]? = some (reI rF x)∧(x.op=0→c2[(rhoL l r).getD k 0+1]? = some ⟨1,d,0,tst0⟩):=by
 intro l
 induction l with
 | nil=>intro r _ k x h;simp at h
 | cons y l ih =>
  intro r h k x hx
  simp only [winG,Bool.and_eq_true,decide_eq_true_eq] at h
  obtain ⟨h1,h2⟩:=h
  cases k with
  | zero =>
   simp at hx
   subst hx
   refine ⟨by simpa [rhoL,List.getD] using h1,fun h0 => ?_⟩
   rw [if_pos h0] at h2
   simp only [Bool.and_eq_true,decide_eq_true_eq] at h2
   simpa [rhoL,List.getD] using h2.1
  | succ k =>
   have e:(rhoL (y::l) r).getD (k+1) 0=(rhoL l (if y.op=0 then r+2 else r+1)).getD k 0:=by simp [rhoL,List.getD]
   rw [e]
   refine ih _ ?_ k x (by simpa using hx)
   by_cases h0:y.op=0
   ·rw [if_pos h0] at h2 ⊢
    simp only [Bool.and_eq_true,decide_eq_true_eq] at h2
    exact h2.2
   ·rw [if_neg h0] at h2 ⊢
    exact h2
def winB (c0 c1:List In) (d:Int):Bool:=winG (rhoF c0) d c1 c0 0&&decide (beginsS c1=(beginsS c0).map (rhoF c0))
theorem winB_is {c0 c1:List In} {d:Int} (h:winB c0 c1 d=true) (hI:Inb c0) (hb:∀b∈beginsS c0,b+1<c0.length∧∃x,c0[b]? = some x∧x.op=0):WinK c0 c1 d (rhoF c0) (beginsS c0) (beginsS c1):=by
 unfold winB at h
 simp only [Bool.and_eq_true,decide_eq_true_eq] at h
 have hat:=winG_at c0 0 h.1
 refine ⟨hI,fun k x hx=>(hat k x hx).1,fun k x hx h0=>⟨(hat k x hx).2 h0,?_⟩,fun k x hx h0 => ?_,hb,?_⟩
 ·have:=rhoL_next c0 0 k x hx
  rw [if_pos h0] at this
  exact this
 ·have:=rhoL_next c0 0 k x hx
  rw [if_neg (by omega)] at this
  exact this
 ·intro b
  rw [h.2,List.mem_map]
  constructor
  ·rintro ⟨b',hb',rfl⟩;exact ⟨b',hb',rfl⟩
  ·rintro ⟨b',hb',rfl⟩;exact ⟨b',hb',rfl⟩
def numS (d:Nat):ByteArray:=if d<10 then ⟨#[48+UInt8.ofNat d]⟩ else ⟨#[48+UInt8.ofNat (d / 10),48+UInt8.ofNat (d % 10)]⟩
def okB (c:List In):Bool:=validB c 60&&inOkB c&&freeB c (beginsS c) 12
noncomputable def wndB (s:ByteArray):Bool :=
 match progB ⟨#[49,49,49]⟩ s with
 | some c0=>okB c0&&(List.range 40).all fun d=>match progB ⟨#[49,49,49]⟩ (s++⟨#[64]⟩++numS d) with
  | some c1=>okB c1&&winB c0 c1 d
  | none=>false
 | none=>false
theorem wnd0:wndB ⟨#[97,65,32,98,91,120,62,65,120,93]⟩=true:=by kernel_rfl
theorem wnd1:wndB ⟨#[97,65,46,42,98,91,120,62,65,120,93]⟩=true:=by kernel_rfl
theorem wnd2:wndB ⟨#[97,65,46,42,98,66,91,120,62,65,120,93,46,42,99,91,120,60,66,120,93]⟩=true:=by kernel_rfl
theorem wnd3:wndB ⟨#[40,97,65,124,97,66,41,98,42,99]⟩=true:=by kernel_rfl
theorem wnd4:wndB ⟨#[40,97,65,32,98,124,98,66,32,97,41,99,67]⟩=true:=by kernel_rfl
theorem wnd5:wndB ⟨#[97,65,40,98,91,120,61,65,120,93,124,99,91,120,35,65,120,93,41,43]⟩=true:=by kernel_rfl
theorem wnd6:wndB ⟨#[97,65,91,120,62,49,93,98,123,48,50,125,99,66,91,116,60,65,116,43,57,93]⟩=true:=by kernel_rfl
theorem wnd7:wndB ⟨#[40,97,65,124,97,65,46,41,98,66,91,120,60,65,120,42,50,93]⟩=true:=by kernel_rfl
theorem wnd8:wndB ⟨#[99,65,46,123,48,51,125,99,66,91,120,61,65,120,45,49,93]⟩=true:=by kernel_rfl
theorem wnd9:wndB ⟨#[97,65,46,42,97,66,91,120,62,65,120,93]⟩=true:=by kernel_rfl
end Go.Proofs.YtcboiapggnmpfabGreatDoor
