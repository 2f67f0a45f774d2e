import Derived.Test.YtcboiapggnmpfabGreatQbx
import Derived.Test.YtcboiapggnmpfabGreatQby
namespace Go.Proofs.YtcboiapggnmpfabGreat
set_option maxRecDepth 100000
set_option linter.unusedSimpArgs false
set_option linter.unusedVariables false
open Go.RowKit
section
theorem addC_mono (c:Crw) (t:Thr):c.l.length≤(addC c t).l.length∧(c.over=true→(addC c t).over=true):=by
 unfold addC
 split
 ·exact ⟨Nat.le_refl _,id⟩
 ·split
  ·exact ⟨Nat.le_refl _,fun _=>rfl⟩
  ·have:=plcT_le c.l t
   exact ⟨by simp;omega,id⟩
theorem lvS_mono (hand:Nmb) (t:Thr) (s:Tn) (a:Int) (anew:Nat) (x:In):s.wait.l.length≤(lvS hand t s a anew x).wait.l.length∧s.ended.l.length≤(lvS hand t s a anew x).ended.l.length∧(s.wait.over=true→(lvS hand t s a anew x).wait.over=true)∧(s.ended.over=true→(lvS hand t s a anew x).ended.over=true):=by
 unfold lvS
 split
 ·exact ⟨(addC_mono _ _).1,Nat.le_refl _,(addC_mono _ _).2,id⟩
 split
 ·split
  ·rw [(rchS_wait _ _ _).1,(rchS_wait _ _ _).2];exact ⟨Nat.le_refl _,Nat.le_refl _,id,id⟩
  ·exact ⟨Nat.le_refl _,Nat.le_refl _,id,id⟩
 split
 ·split
  ·rw [(rchS_wait _ _ _).1,(rchS_wait _ _ _).2];exact ⟨Nat.le_refl _,Nat.le_refl _,id,id⟩
  ·exact ⟨Nat.le_refl _,Nat.le_refl _,id,id⟩
 split
 ·rw [(rchS_wait _ _ _).1,(rchS_wait _ _ _).2];exact ⟨Nat.le_refl _,Nat.le_refl _,id,id⟩
 split
 ·rw [(rchS_wait _ _ _).1,(rchS_wait _ _ _).2];exact ⟨Nat.le_refl _,Nat.le_refl _,id,id⟩
 split
 ·rw [(rchS_wait _ _ _).1,(rchS_wait _ _ _).2,(rchS_wait _ _ _).1,(rchS_wait _ _ _).2];exact ⟨Nat.le_refl _,Nat.le_refl _,id,id⟩
 split
 ·exact ⟨Nat.le_refl _,(addC_mono _ _).1,id,(addC_mono _ _).2⟩
 ·exact ⟨Nat.le_refl _,Nat.le_refl _,id,id⟩
theorem goF_mono (code:List In) (hand:Nmb) (t:Thr):∀(m:Nat) (s:Tn),s.wait.l.length≤(goF code hand t m s).wait.l.length∧s.ended.l.length≤(goF code hand t m s).ended.l.length∧(s.wait.over=true→(goF code hand t m s).wait.over=true)∧(s.ended.over=true→(goF code hand t m s).ended.over=true):=by
 intro m
 induction m with
 | zero=>intro s;exact ⟨Nat.le_refl _,Nat.le_refl _,id,id⟩
 | succ m ih =>
  intro s
  unfold goF
  split
  ·exact ⟨Nat.le_refl _,Nat.le_refl _,id,id⟩
  ·split
   ·exact ⟨Nat.le_refl _,Nat.le_refl _,id,id⟩
   ·rename_i p hp
    split
    ·exact ⟨Nat.le_refl _,Nat.le_refl _,id,id⟩
    ·rename_i x hx
     obtain ⟨a1,a2,a3,a4⟩:=lvS_mono hand t { s with opn:=s.opn.dropLast } p.1 p.2 x
     obtain ⟨b1,b2,b3,b4⟩:=ih (lvS hand t { s with opn:=s.opn.dropLast } p.1 p.2 x)
     exact ⟨Nat.le_trans a1 b1,Nat.le_trans a2 b2,fun h=>b3 (a3 h),fun h=>b4 (a4 h)⟩
theorem goF_ovr (code:List In) (hand:Nmb) (t:Thr) (m:Nat) (s:Tn) (h:s.wait.over=true∨s.ended.over=true):goF code hand t m s=s:=by
 cases m with
 | zero=>rfl
 | succ m=>unfold goF;rw [if_pos h]
section
variable (lw le:Nat)
structure SimG (c d:Crw×Crw):Prop where
 w:d.1.l=c.1.l
 e:d.2.l=c.2.l
 wo:d.1.over=false
 eo:d.2.over=false
 wl:d.1.l.length≤lw
 el:d.2.l.length≤le
 wm:d.1.most=lw
 em:d.2.most=le
def SimB (c d:Crw×Crw):Prop:=(d.1.over=true∨d.2.over=true)∧(lw<c.1.l.length∨le<c.2.l.length)
theorem sim_add {c d:Crw} {n:Nat} (hl:d.l=c.l) (ho:d.over=false) (hn:d.l.length≤n) (hm:d.most=n) (t:Thr) (hc:(addC c t).over=false) :
  ((addC d t).l=(addC c t).l∧(addC d t).over=false∧(addC d t).l.length≤n∧(addC d t).most=n)∨((addC d t).over=true∧n<(addC c t).l.length):=by
 unfold addC at hc ⊢
 rw [hl,hm]
 by_cases h1:c.l[plcT c.l t]? = some t
 ·rw [if_pos h1,if_pos h1];left;exact ⟨hl,ho,hn,hm⟩
 ·rw [if_neg h1] at hc
  rw [if_neg h1,if_neg h1]
  by_cases h2:c.most≤c.l.length
  ·rw [if_pos h2] at hc;simp at hc
  ·rw [if_neg h2]
   have hp:=plcT_le c.l t
   rw [hl] at hn
   by_cases h3:(n:Int)≤c.l.length
   ·rw [if_pos h3]
    right
    refine ⟨rfl,?_⟩
    simp
    omega
   ·rw [if_neg h3]
    left
    refine ⟨rfl,ho,?_,rfl⟩
    simp
    omega
structure SimT (s s':Tn):Prop where
 v:s'.vis=s.vis
 o:s'.opn=s.opn
 g:SimG lw le (s.wait,s.ended) (s'.wait,s'.ended)
variable {lw le}
theorem SimT.rch {s s':Tn} (h:SimT lw le s s') (a:Int) (an:Nat):SimT lw le (rchS s a an) (rchS s' a an):=by
 unfold rchS
 rw [h.v,h.o]
 split
 ·exact ⟨rfl,rfl,h.g⟩
 ·exact ⟨h.v,h.o,h.g⟩
theorem SimT.go {code:List In} {hand:Nmb} {t:Thr}:∀(m:Nat) (s s':Tn),SimT lw le s s'→(goF code hand t m s).wait.over=false→(goF code hand t m s).ended.over=false →
  SimT lw le (goF code hand t m s) (goF code hand t m s')∨SimB lw le ((goF code hand t m s).wait,(goF code hand t m s).ended) ((goF code hand t m s').wait,(goF code hand t m s').ended):=by
 intro m
 induction m with
 | zero=>intro s s' h _ _;exact Or.inl h
 | succ m ih =>
  intro s s' h hw he
  have nw:¬(s'.wait.over=true∨s'.ended.over=true):=by have:=h.g.wo;have:=h.g.eo;simp_all
  by_cases ov:s.wait.over=true∨s.ended.over=true
  ·have e:=goF_ovr code hand t (m+1) s ov
   rw [e] at hw he
   rcases ov with o|o
   ·rw [o] at hw;cases hw
   ·rw [o] at he;cases he
  unfold goF at hw he ⊢
  rw [if_neg ov] at hw he
  rw [if_neg ov,if_neg nw,h.o]
  cases hp:s.opn.getLast? with
  | none=>exact Or.inl h
  | some p =>
   simp only [hp] at hw he ⊢
   cases hx:code[p.1.toNat]? with
   | none=>exact Or.inl h
   | some x =>
    simp only [hx] at hw he ⊢
    have hb:SimT lw le { s with opn:=s.opn.dropLast } { s' with opn:=s.opn.dropLast }:=⟨h.v,rfl,h.g⟩
    have key:SimT lw le (lvS hand t { s with opn:=s.opn.dropLast } p.1 p.2 x) (lvS hand t { s' with opn:=s.opn.dropLast } p.1 p.2 x) ∨
      SimB lw le ((lvS hand t { s with opn:=s.opn.dropLast } p.1 p.2 x).wait,(lvS hand t { s with opn:=s.opn.dropLast } p.1 p.2 x).ended) ((lvS hand t { s' with opn:=s.opn.dropLast } p.1 p.2 x).wait,(lvS hand t { s' with opn:=s.opn.dropLast } p.1 p.2 x).ended):=by
     have mono:=goF_mono code hand t m (lvS hand t { s with opn:=s.opn.dropLast } p.1 p.2 x)
     have hw1:(lvS hand t { s with opn:=s.opn.dropLast } p.1 p.2 x).wait.over=false:=by
      cases hq:(lvS hand t { s with opn:=s.opn.dropLast } p.1 p.2 x).wait.over with
      | false=>rfl
      | true=>have:=mono.2.2.1 hq;rw [this] at hw;cases hw
     have he1:(lvS hand t { s with opn:=s.opn.dropLast } p.1 p.2 x).ended.over=false:=by
      cases hq:(lvS hand t { s with opn:=s.opn.dropLast } p.1 p.2 x).ended.over with
      | false=>rfl
      | true=>have:=mono.2.2.2 hq;rw [this] at he;cases he
     clear mono hw he ih
     unfold lvS at hw1 he1 ⊢
     by_cases o0:x.op=0
     ·rw [if_pos o0] at hw1
      rw [if_pos o0,if_pos o0]
      rcases sim_add h.g.w h.g.wo h.g.wl h.g.wm (threadS hand t p.1 p.2) hw1 with ⟨a,b,c,d⟩ | ⟨a,b⟩
      ·exact Or.inl ⟨h.v,rfl,⟨a,h.g.e,b,h.g.eo,c,h.g.el,d,h.g.em⟩⟩
      ·exact Or.inr ⟨Or.inl a,Or.inl b⟩
     rw [if_neg o0,if_neg o0]
     rw [if_neg o0] at he1
     by_cases o1:x.op=1
     ·rw [if_pos o1,if_pos o1]
      left
      split
      ·exact hb.rch _ _
      ·exact hb
     rw [if_neg o1,if_neg o1]
     rw [if_neg o1] at he1
     by_cases o2:x.op=2
     ·rw [if_pos o2,if_pos o2]
      left
      split
      ·exact hb.rch _ _
      ·exact hb
     rw [if_neg o2,if_neg o2]
     rw [if_neg o2] at he1
     by_cases o3:x.op=3
     ·rw [if_pos o3,if_pos o3];exact Or.inl (hb.rch _ _)
     rw [if_neg o3,if_neg o3]
     rw [if_neg o3] at he1
     by_cases o4:x.op=4
     ·rw [if_pos o4,if_pos o4];exact Or.inl (hb.rch _ _)
     rw [if_neg o4,if_neg o4]
     rw [if_neg o4] at he1
     by_cases o5:x.op=5
     ·rw [if_pos o5,if_pos o5];exact Or.inl ((hb.rch _ _).rch _ _)
     rw [if_neg o5,if_neg o5]
     rw [if_neg o5] at he1
     by_cases o6:x.op=6
     ·rw [if_pos o6] at he1
      rw [if_pos o6,if_pos o6]
      rcases sim_add h.g.e h.g.eo h.g.el h.g.em (threadS hand t 0 p.2) he1 with ⟨a,b,c,d⟩ | ⟨a,b⟩
      ·exact Or.inl ⟨h.v,rfl,⟨h.g.w,a,h.g.wo,b,h.g.wl,c,h.g.wm,d⟩⟩
      ·exact Or.inr ⟨Or.inr a,Or.inr b⟩
     rw [if_neg o6,if_neg o6]
     exact Or.inl hb
    rcases key with k|k
    ·exact ih _ _ k hw he
    ·right
     have mono:=goF_mono code hand t m (lvS hand t { s with opn:=s.opn.dropLast } p.1 p.2 x)
     rw [goF_ovr code hand t m (lvS hand t { s' with opn:=s.opn.dropLast } p.1 p.2 x) k.1]
     refine ⟨k.1,?_⟩
     rcases k.2 with q|q
     ·exact Or.inl (Nat.lt_of_lt_of_le q mono.1)
     ·exact Or.inr (Nat.lt_of_lt_of_le q mono.2.1)
theorem goOn_mono (code:List In) (hand:Nmb) (c:Crw×Crw) (t:Thr):c.1.l.length≤(goOnS code hand c t).1.l.length∧c.2.l.length≤(goOnS code hand c t).2.l.length∧(c.1.over=true→(goOnS code hand c t).1.over=true)∧(c.2.over=true→(goOnS code hand c t).2.over=true):=by
 unfold goOnS
 split
 ·exact ⟨Nat.le_refl _,Nat.le_refl _,id,id⟩
 ·split
  ·have:=goF_mono code hand t (1+16*code.length) (rchS ⟨List.replicate (16*code.length) false,[],c.1,c.2⟩ (t.at'+1) 0)
   rw [(rchS_wait _ _ _).1,(rchS_wait _ _ _).2] at this
   exact this
  ·exact ⟨Nat.le_refl _,Nat.le_refl _,id,id⟩
theorem sim_goOn {code:List In} {hand:Nmb} {c d:Crw×Crw} (t:Thr) (h:SimG lw le c d∨SimB lw le c d) (hw:(goOnS code hand c t).1.over=false) (he:(goOnS code hand c t).2.over=false) :
  SimG lw le (goOnS code hand c t) (goOnS code hand d t)∨SimB lw le (goOnS code hand c t) (goOnS code hand d t):=by
 rcases h with h|h
 ·unfold goOnS at hw he ⊢
  cases hx:code[t.at'.toNat]? with
  | none=>exact Or.inl h
  | some x =>
   simp only [hx] at hw he ⊢
   by_cases hk:x.a=4∨x.a=hand.e.kind
   ·rw [if_pos hk] at hw he
    rw [if_pos hk,if_pos hk]
    have s0:SimT lw le ⟨List.replicate (16*code.length) false,[],c.1,c.2⟩ ⟨List.replicate (16*code.length) false,[],d.1,d.2⟩:=⟨rfl,rfl,h⟩
    rcases SimT.go (code:=code) (hand:=hand) (t:=t) (1+16*code.length) _ _ (s0.rch (t.at'+1) 0) hw he with k|k
    ·exact Or.inl k.g
    ·exact Or.inr k
   ·rw [if_neg hk,if_neg hk];exact Or.inl h
 ·right
  have m1:=goOn_mono code hand c t
  have m2:=goOn_mono code hand d t
  refine ⟨?_,?_⟩
  ·rcases h.1 with q|q
   ·exact Or.inl (m2.2.2.1 q)
   ·exact Or.inr (m2.2.2.2 q)
  ·rcases h.2 with q|q
   ·exact Or.inl (Nat.lt_of_lt_of_le q m1.1)
   ·exact Or.inr (Nat.lt_of_lt_of_le q m1.2.1)
theorem fold_mono (code:List In) (hand:Nmb):∀(ts:List Thr) (c:Crw×Crw),(c.1.over=true→(ts.foldl (goOnS code hand) c).1.over=true)∧(c.2.over=true→(ts.foldl (goOnS code hand) c).2.over=true):=by
 intro ts
 induction ts with
 | nil=>intro c;exact ⟨id,id⟩
 | cons t ts ih =>
  intro c
  have:=goOn_mono code hand c t
  exact ⟨fun h=>(ih _).1 (this.2.2.1 h),fun h=>(ih _).2 (this.2.2.2 h)⟩
theorem sim_fold {code:List In} {hand:Nmb}:∀(ts:List Thr) (c d:Crw×Crw),(SimG lw le c d∨SimB lw le c d)→(ts.foldl (goOnS code hand) c).1.over=false→(ts.foldl (goOnS code hand) c).2.over=false →
  SimG lw le (ts.foldl (goOnS code hand) c) (ts.foldl (goOnS code hand) d)∨SimB lw le (ts.foldl (goOnS code hand) c) (ts.foldl (goOnS code hand) d):=by
 intro ts
 induction ts with
 | nil=>intro c d h _ _;exact h
 | cons t ts ih =>
  intro c d h hw he
  rw [List.foldl_cons] at hw he
  rw [List.foldl_cons,List.foldl_cons]
  have fm:=fold_mono code hand ts (goOnS code hand c t)
  have hw1:(goOnS code hand c t).1.over=false:=by
   cases hq:(goOnS code hand c t).1.over with
   | false=>rfl
   | true=>have:=fm.1 hq;rw [this] at hw;cases hw
  have he1:(goOnS code hand c t).2.over=false:=by
   cases hq:(goOnS code hand c t).2.over with
   | false=>rfl
   | true=>have:=fm.2 hq;rw [this] at he;cases he
  exact ih _ _ (sim_goOn t h hw1 he1) hw he
end
theorem feed_lim {sc:List Int} {l:List In} {bs:List Nat} {live found:Int} {lw le:Nat} {r:Rst} {e:Evt} (h:(feedS sc l bs live found r e).2.2=0) :
  ((feedS sc l bs live found r e).1.ws.length≤lw∧(feedS sc l bs live found r e).2.1.length≤le∧feedS sc l bs lw le r e=feedS sc l bs live found r e) ∨
  ((lw<(feedS sc l bs live found r e).1.ws.length∨le<(feedS sc l bs live found r e).2.1.length)∧feedS sc l bs lw le r e=(⟨[],r.count,r.last,true⟩,[],11)):=by
 unfold feedS at h ⊢
 by_cases c1:r.spent=true
 ·rw [if_pos c1] at h;simp at h
 rw [if_neg c1] at h
 rw [if_neg c1,if_neg c1]
 by_cases c2:e.at'<r.last∨goodE sc e=false
 ·rw [if_pos c2] at h;simp at h
 rw [if_neg c2] at h
 rw [if_neg c2,if_neg c2]
 by_cases c3:((stepS l ⟨r.count,e⟩ r.ws bs live found).1.over||(stepS l ⟨r.count,e⟩ r.ws bs live found).2.over)=true
 ·rw [if_pos c3] at h;simp at h
 rw [if_neg c3]
 simp only [Bool.or_eq_true,not_or,Bool.not_eq_true] at c3
 have s0:SimG lw le ((⟨[],live,false⟩,⟨[],found,false⟩):Crw×Crw) (⟨[],(lw:Int),false⟩,⟨[],(le:Int),false⟩):=⟨rfl,rfl,rfl,rfl,by simp,by simp,rfl,rfl⟩
 have fm:=fold_mono l ⟨r.count,e⟩ (bs.map (fun b:Nat=>newT (b:Int) ⟨r.count,e⟩)) (r.ws.foldl (goOnS l ⟨r.count,e⟩) (⟨[],live,false⟩,⟨[],found,false⟩))
 have hw1:(r.ws.foldl (goOnS l ⟨r.count,e⟩) ((⟨[],live,false⟩,⟨[],found,false⟩):Crw×Crw)).1.over=false:=by
  cases hq:(r.ws.foldl (goOnS l ⟨r.count,e⟩) ((⟨[],live,false⟩,⟨[],found,false⟩):Crw×Crw)).1.over with
  | false=>rfl
  | true=>have:=fm.1 hq;have c:=c3.1;unfold stepS at c;rw [this] at c;cases c
 have he1:(r.ws.foldl (goOnS l ⟨r.count,e⟩) ((⟨[],live,false⟩,⟨[],found,false⟩):Crw×Crw)).2.over=false:=by
  cases hq:(r.ws.foldl (goOnS l ⟨r.count,e⟩) ((⟨[],live,false⟩,⟨[],found,false⟩):Crw×Crw)).2.over with
  | false=>rfl
  | true=>have:=fm.2 hq;have c:=c3.2;unfold stepS at c;rw [this] at c;cases c
 have f1:=sim_fold (code:=l) (hand:=⟨r.count,e⟩) r.ws _ _ (Or.inl s0) hw1 he1
 have f2:=sim_fold (code:=l) (hand:=⟨r.count,e⟩) (bs.map (fun b:Nat=>newT (b:Int) ⟨r.count,e⟩)) _ _ f1 c3.1 c3.2
 have e1:∀a b:Int,stepS l ⟨r.count,e⟩ r.ws bs a b=(bs.map (fun b:Nat=>newT (b:Int) ⟨r.count,e⟩)).foldl (goOnS l ⟨r.count,e⟩) (r.ws.foldl (goOnS l ⟨r.count,e⟩) (⟨[],a,false⟩,⟨[],b,false⟩)):=fun a b=>rfl
 rw [←e1,←e1] at f2
 generalize stepS l ⟨r.count,e⟩ r.ws bs live found=C at *
 generalize stepS l ⟨r.count,e⟩ r.ws bs (lw:Int) (le:Int)=D at *
 rcases f2 with f|f
 ·left
  have hwl:=f.wl
  have hel:=f.el
  rw [f.w] at hwl
  rw [f.e] at hel
  refine ⟨hwl,by simpa using hel,?_⟩
  rw [if_neg (by simp [f.wo,f.eo]),f.w,f.e]
 ·right
  refine ⟨by simpa using f.2,?_⟩
  rw [if_pos (by simpa using f.1)]
end
theorem feed_spent {sc:List Int} {l:List In} {bs:List Nat} {live found:Int} {r:Rst} (hsp:r.spent=true) (e:Evt):feedS sc l bs live found r e=(r,[],12):=by
 unfold feedS;rw [if_pos hsp]
theorem sameM_nil (p:Option Addr) (n cap:Nat) (w:World) (hn:n≤100000):Calls Tryz.prog 17 #[.slice p n cap,.slice none 0 0] w fun e w'=>∃b,e=.returned (.bool b)∧Nw w w':=by
 by_cases h:n=0
 ·subst h
  refine (sameM_same p none cap 0 [] w (fun h=>absurd rfl h) (fun h=>absurd rfl h) (by simp) (fun x hx=>by cases hx)).mono ?_
  rintro e w' ⟨rfl,k⟩
  exact ⟨true,rfl,k⟩
 ·have h1:((n:Int) == 0)=false:=eqb_false (by omega)
  have h2:¬(n:Int)=0:=by omega
  go_enter Tryz.func17,Tryz.ntmps17
  go_wp2
  go_ret
  exact ⟨false,rfl,Kp.refl _ _⟩
structure LimM (code:List In) (L:List Evt) (w:World) (X Y M M2 BL:Nat) (lw le:Nat) (lp:Option Addr) (i:Nat) (sp:Bool) (cnt:Nat) (wr:World):Prop where
 x:RunA wr X (bI ⟨#[49,49,49]⟩) 200 200 code (fun b=>b<M∨M2≤b) (runS (bI ⟨#[49,49,49]⟩) code (beginsS code) 200 200 ⟨[],0,0,false⟩ (L.take i))
 y:∃ry,RunA wr Y (bI ⟨#[49,49,49]⟩) lw le code (fun b=>M≤b) ry∧ry.count=cnt∧(sp=false→ry=runS (bI ⟨#[49,49,49]⟩) code (beginsS code) 200 200 ⟨[],0,0,false⟩ (L.take i))∧(sp=true→ry.spent=true∧ry.ws=[])
 e:EvsP wr lp L
 b:Bx wr BL [.int .i64 lw,.int .i64 le]
 n:Nw w wr
 m:M2≤wr.heap.size
 c:cnt≤i
theorem LimM.nw {code:List In} {L:List Evt} {w:World} {X Y M M2 BL:Nat} {lw le:Nat} {lp:Option Addr} {i:Nat} {sp:Bool} {cnt:Nat} {wr w':World} (h:LimM code L w X Y M M2 BL lw le lp i sp cnt wr) (k:Nw wr w'):LimM code L w X Y M M2 BL lw le lp i sp cnt w':=by
 obtain ⟨ry,h1,h2⟩:=h.y
 exact ⟨h.x.nw k,⟨ry,h1.nw k,h2⟩,h.e.kp k (fun _ _ h=>h),h.b.kp (by simp) k (fun h=>h),h.n.trans k,Nat.le_trans h.m k.size,h.c⟩
end Go.Proofs.YtcboiapggnmpfabGreat
