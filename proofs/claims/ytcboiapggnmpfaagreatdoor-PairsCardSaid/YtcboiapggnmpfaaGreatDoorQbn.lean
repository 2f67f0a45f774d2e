import Derived.Test.YtcboiapggnmpfaaGreatDoorQbm
import Derived.Test.YtcboiapggnmpfaaGreatDoorQav
namespace Go.Proofs.YtcboiapggnmpfaaGreatDoor
set_option maxRecDepth 100000
set_option maxHeartbeats 4000000
set_option linter.unusedSimpArgs false
set_option linter.unusedVariables false
open Go.RowKit
def nxA (x:In) (a an:Nat):List (Nat×Nat) :=
 if x.op=0 then [] else if x.op=1 then [(a+1,an)] else if x.op=2 then [(a+1,an)] else if x.op=3 then [(a+1,an ||| bitN x.a)]
 else if x.op=4 then [(x.a.toNat,an)] else if x.op=5 then [(x.a.toNat,an),(x.b.toNat,an)] else []
def ShutA (code:List In) (R:List (Nat×Nat)):Prop:=∀p∈R,∀x,code[p.1]? = some x→(∀q∈nxA x p.1 p.2,q∈R)∧(x.op=4→0≤x.a)∧(x.op=5→0≤x.a∧0≤x.b)
def opnK (K:Nat→Bool) (l:List (Int×Nat)):Nat:=l.countP (fun p=>K p.1.toNat)
def unvK (K:Nat→Bool) (R:List (Nat×Nat)) (vis:List Bool):Nat:=R.countP (fun p=>K p.1&&decide (vis[p.1*16+p.2]? = some false))
def potK (K:Nat→Bool) (R:List (Nat×Nat)) (s:Tn):Nat:=opnK K s.opn+unvK K R s.vis
def InR (R:List (Nat×Nat)) (s:Tn):Prop:=∀p∈s.opn,0≤p.1∧(p.1.toNat,p.2)∈R
theorem unv_set (K:Nat→Bool) (R:List (Nat×Nat)) (vis:List Bool) (a an:Nat) (h:vis[a*16+an]? = some false) (hm:(a,an)∈R) (hK:K a=true):unvK K R (vis.set (a*16+an) true)+1≤unvK K R vis:=by
 unfold unvK
 induction R with
 | nil=>simp at hm
 | cons p r ih =>
  have hle:∀l:List (Nat×Nat),l.countP (fun p=>K p.1&&decide ((vis.set (a*16+an) true)[p.1*16+p.2]? = some false))≤l.countP (fun p=>K p.1&&decide (vis[p.1*16+p.2]? = some false)):=by
   intro l
   refine List.countP_mono_left ?_
   intro q _ hq
   simp only [Bool.and_eq_true,decide_eq_true_eq] at hq ⊢
   refine ⟨hq.1,?_⟩
   by_cases e:a*16+an=q.1*16+q.2
   ·rw [←e] at hq ⊢;exact h
   ·rw [List.getElem?_set_ne e] at hq;exact hq.2
  rw [List.countP_cons,List.countP_cons]
  rcases List.mem_cons.1 hm with e|e
  ·subst e
   have e1:(K a&&decide ((vis.set (a*16+an) true)[a*16+an]? = some false))=false:=by
    have hl:=(List.getElem?_eq_some_iff.1 h).1
    simp [List.getElem?_set_self hl]
   have e2:(K a&&decide (vis[a*16+an]? = some false))=true:=by simp [hK,h]
   simp only [e1,e2]
   have:=hle r
   simp only [Bool.false_eq_true,if_false,if_true]
   omega
  ·have i1:=ih e
   have:(if (K p.1&&decide ((vis.set (a*16+an) true)[p.1*16+p.2]? = some false))=true then 1 else 0)≤(if (K p.1&&decide (vis[p.1*16+p.2]? = some false))=true then 1 else 0):=by
    have:=hle [p]
    simpa [List.countP_cons] using this
   omega
theorem unv_set_le (K:Nat→Bool) (R:List (Nat×Nat)) (vis:List Bool) (i:Nat) (h:vis[i]? = some false):unvK K R (vis.set i true)≤unvK K R vis:=by
 unfold unvK
 refine List.countP_mono_left ?_
 intro q _ hq
 simp only [Bool.and_eq_true,decide_eq_true_eq] at hq ⊢
 refine ⟨hq.1,?_⟩
 by_cases e:i=q.1*16+q.2
 ·rw [←e];exact h
 ·rw [List.getElem?_set_ne e] at hq;exact hq.2
theorem rch_pot (K:Nat→Bool) {R:List (Nat×Nat)} {s:Tn} {a an:Nat} (hm:(a,an)∈R):potK K R (rchS s a an)≤potK K R s:=by
 unfold rchS
 split
 ·rename_i h
  have e:((a:Int)*16+(an:Int)).toNat=a*16+an:=by omega
  rw [e] at h ⊢
  unfold potK opnK
  simp only [List.countP_append,List.countP_cons,List.countP_nil,Int.toNat_natCast]
  by_cases hK:K a=true
  ·have:=unv_set K R s.vis a an h.2 hm hK
   simp only [hK,if_true]
   omega
  ·have:=unv_set_le K R s.vis _ h.2
   simp only [hK,if_false]
   simp
   omega
 ·exact Nat.le_refl _
theorem rch_in {R:List (Nat×Nat)} {s:Tn} {a an:Nat} (h:InR R s) (hm:(a,an)∈R):InR R (rchS s a an):=by
 unfold rchS
 split
 ·intro p hp
  rcases List.mem_append.1 hp with e|e
  ·exact h p e
  ·simp only [List.mem_singleton] at e
   subst e
   exact ⟨by simp,by simpa using hm⟩
 ·exact h
theorem rch_crw (s:Tn) (z:Int) (an:Nat):(rchS s z an).wait=s.wait∧(rchS s z an).ended=s.ended:=rchS_wait s z an
def cntW (c:Crw) (q:Nat):Nat:=c.l.countP (fun t=>decide (t.at'=(q:Int)))
theorem addC_cnt (c:Crw) (t:Thr) (q:Nat):cntW (addC c t) q≤cntW c q+(if t.at'=(q:Int) then 1 else 0):=by
 unfold addC
 split
 ·omega
 ·split
  ·unfold cntW;simp only;omega
  ·unfold cntW
   simp only [List.countP_append,List.countP_cons]
   have e:=List.take_append_drop (plcT c.l t) c.l
   have:c.l.countP (fun t=>decide (t.at'=(q:Int)))=(c.l.take (plcT c.l t)).countP (fun t=>decide (t.at'=(q:Int)))+(c.l.drop (plcT c.l t)).countP (fun t=>decide (t.at'=(q:Int))):=by
    rw [←List.countP_append,e]
   rw [this]
   by_cases hq:t.at'=(q:Int) <;> simp [hq] <;> omega
theorem addC_len (c:Crw) (t:Thr):(addC c t).l.length≤c.l.length+1:=by
 unfold addC
 split
 ·omega
 ·split
  ·simp
  ·have:=plcT_le c.l t
   simp;omega
theorem addC_mem {c:Crw} {t u:Thr} (h:u∈(addC c t).l):u∈c.l∨u=t:=by
 unfold addC at h
 split at h
 ·exact Or.inl h
 ·split at h
  ·exact Or.inl h
  ·rcases List.mem_append.1 h with e|e
   ·exact Or.inl (List.mem_of_mem_take e)
   ·rcases List.mem_cons.1 e with e|e
    ·exact Or.inr e
    ·exact Or.inl (List.mem_of_mem_drop e)
theorem addC_over (c:Crw) (t:Thr) (h:c.over=false) (hm:(c.l.length:Int)<c.most):(addC c t).over=false:=by
 unfold addC
 split
 ·exact h
 ·split
  ·omega
  ·exact h
def isTk (code:List In) (a:Nat):Bool:=match code[a]? with|some x=>decide (x.op=0)|none=>false
def isEd (code:List In) (a:Nat):Bool:=match code[a]? with|some x=>decide (x.op=6)|none=>false
structure Room (code:List In) (R:List (Nat×Nat)) (f:Nat→Nat) (F G:Nat) (s:Tn):Prop where
 r:InR R s
 q:∀q,cntW s.wait q+potK (fun a=>decide (a=q)) R s≤f q
 w:s.wait.l.length+potK (isTk code) R s≤F
 e:s.ended.l.length+potK (isEd code) R s≤G
 wm:(F:Int)≤s.wait.most
 em:(G:Int)≤s.ended.most
 wo:s.wait.over=false
 eo:s.ended.over=false
 tk:∀u∈s.wait.l,0≤u.at'∧isTk code u.at'.toNat=true
theorem Room.rch {code:List In} {R:List (Nat×Nat)} {f:Nat→Nat} {F G:Nat} {s:Tn} (h:Room code R f F G s) {a an:Nat} (hm:(a,an)∈R):Room code R f F G (rchS s a an):=by
 obtain ⟨e1,e2⟩:=rch_crw s a an
 refine ⟨rch_in h.r hm,?_,?_,?_,?_,?_,?_,?_,?_⟩
 ·intro q;rw [e1];have:=h.q q;have:=rch_pot (fun a=>decide (a=q)) (s:=s) hm;omega
 ·rw [e1];have:=h.w;have:=rch_pot (isTk code) (s:=s) hm;omega
 ·rw [e2];have:=h.e;have:=rch_pot (isEd code) (s:=s) hm;omega
 ·rw [e1];exact h.wm
 ·rw [e2];exact h.em
 ·rw [e1];exact h.wo
 ·rw [e2];exact h.eo
 ·rw [e1];exact h.tk
theorem pop_pot (K:Nat→Bool) (R:List (Nat×Nat)) (s:Tn) (p:Int×Nat) (h:s.opn.getLast? = some p):potK K R { s with opn:=s.opn.dropLast }+(if K p.1.toNat=true then 1 else 0)=potK K R s:=by
 unfold potK opnK
 have e:s.opn=s.opn.dropLast++[p]:=by
  obtain ⟨l,hl⟩:=List.getLast?_eq_some_iff.1 h
  rw [hl];simp
 conv=>rhs;rw [e]
 simp only [List.countP_append,List.countP_cons,List.countP_nil]
 omega
theorem Room.leave {code:List In} {R:List (Nat×Nat)} {f:Nat→Nat} {F G:Nat} {s:Tn} (hS:ShutA code R) (h:Room code R f F G s) {p:Int×Nat} (hp:s.opn.getLast? = some p) {x:In} (hx:code[p.1.toNat]? = some x) (hand:Nmb) (t:Thr) :
  Room code R f F G (lvS hand t { s with opn:=s.opn.dropLast } p.1 p.2 x):=by
 have hmem:p∈s.opn:=List.mem_of_getLast? hp
 obtain ⟨h0,hR⟩:=h.r p hmem
 obtain ⟨hN,hJ,hSp⟩:=hS _ hR x hx
 have hpa:p.1=(p.1.toNat:Int):=by omega
 have hb:Room code R f F G { s with opn:=s.opn.dropLast }:=by
  refine ⟨fun u hu=>h.r u (List.dropLast_subset _ hu),?_,?_,?_,h.wm,h.em,h.wo,h.eo,h.tk⟩
  ·intro q;have:=h.q q;have:=pop_pot (fun a=>decide (a=q)) R s p hp;simp only;omega
  ·have:=h.w;have:=pop_pot (isTk code) R s p hp;simp only;omega
  ·have:=h.e;have:=pop_pot (isEd code) R s p hp;simp only;omega
 unfold lvS
 split
 ·rename_i o
  have hT:isTk code p.1.toNat=true:=by simp [isTk,hx,o]
  have p1:=pop_pot (isTk code) R s p hp
  rw [hT] at p1
  simp only [if_true] at p1
  have hw:=h.w
  refine ⟨hb.r,?_,?_,hb.e,by show _≤(addC _ _).most;rw [addC_most];exact h.wm,hb.em,?_,hb.eo,?_⟩
  ·intro q
   have hq:=h.q q
   have p2:=pop_pot (fun a=>decide (a=q)) R s p hp
   have p3:=addC_cnt s.wait (threadS hand t p.1 p.2) q
   have e4:(threadS hand t p.1 p.2).at'=p.1:=rfl
   rw [e4] at p3
   show cntW (addC s.wait (threadS hand t p.1 p.2)) q+potK (fun a=>decide (a=q)) R { s with opn:=s.opn.dropLast }≤f q
   by_cases hqq:p.1.toNat=q
   ·have:p.1=(q:Int):=by omega
    rw [if_pos this] at p3
    rw [if_pos (by simpa using hqq)] at p2
    omega
   ·have:¬p.1=(q:Int):=by omega
    rw [if_neg this] at p3
    omega
  ·have:=addC_len s.wait (threadS hand t p.1 p.2)
   show (addC s.wait (threadS hand t p.1 p.2)).l.length+potK (isTk code) R { s with opn:=s.opn.dropLast }≤F
   omega
  ·exact addC_over s.wait _ h.wo (by have:=h.wm;omega)
  ·intro u hu
   rcases addC_mem hu with e|e
   ·exact h.tk u e
   ·subst e;exact ⟨h0,hT⟩
 rename_i o0
 have hnx:nxA x p.1.toNat p.2=if x.op=1 then [(p.1.toNat+1,p.2)] else if x.op=2 then [(p.1.toNat+1,p.2)] else if x.op=3 then [(p.1.toNat+1,p.2 ||| bitN x.a)] else if x.op=4 then [(x.a.toNat,p.2)] else if x.op=5 then [(x.a.toNat,p.2),(x.b.toNat,p.2)] else []:=by
  unfold nxA;rw [if_neg o0]
 have e1:p.1+1=((p.1.toNat+1:Nat):Int):=by omega
 split
 ·rename_i o1
  rw [hnx,if_pos o1] at hN
  split
  ·rw [e1];exact hb.rch (hN _ (by simp))
  ·exact hb
 rename_i o1
 rw [if_neg o1] at hnx
 split
 ·rename_i o2
  rw [hnx,if_pos o2] at hN
  split
  ·rw [e1];exact hb.rch (hN _ (by simp))
  ·exact hb
 rename_i o2
 rw [if_neg o2] at hnx
 split
 ·rename_i o3
  rw [hnx,if_pos o3] at hN
  rw [e1];exact hb.rch (hN _ (by simp))
 rename_i o3
 rw [if_neg o3] at hnx
 split
 ·rename_i o4
  rw [hnx,if_pos o4] at hN
  have:=hJ o4
  rw [show x.a=(x.a.toNat:Int) by omega]
  exact hb.rch (hN _ (by simp))
 rename_i o4
 rw [if_neg o4] at hnx
 split
 ·rename_i o5
  rw [hnx,if_pos o5] at hN
  have:=hSp o5
  rw [show x.a=(x.a.toNat:Int) by omega,show x.b=(x.b.toNat:Int) by omega]
  exact (hb.rch (hN _ (by simp))).rch (hN _ (by simp))
 split
 ·rename_i o6
  have hT:isEd code p.1.toNat=true:=by simp [isEd,hx,o6]
  have p1:=pop_pot (isEd code) R s p hp
  rw [hT] at p1
  simp only [if_true] at p1
  have hw:=h.e
  refine ⟨hb.r,hb.q,hb.w,?_,hb.wm,by show _≤(addC _ _).most;rw [addC_most];exact h.em,hb.wo,?_,hb.tk⟩
  ·have:=addC_len s.ended (threadS hand t 0 p.2)
   show (addC s.ended (threadS hand t 0 p.2)).l.length+potK (isEd code) R { s with opn:=s.opn.dropLast }≤G
   omega
  ·exact addC_over s.ended _ h.eo (by have:=h.em;omega)
 ·exact hb
theorem Room.go {code:List In} {R:List (Nat×Nat)} {f:Nat→Nat} {F G:Nat} (hS:ShutA code R) (hand:Nmb) (t:Thr):∀(m:Nat) (s:Tn),Room code R f F G s→Room code R f F G (goF code hand t m s):=by
 intro m
 induction m with
 | zero=>intro s h;exact h
 | succ m ih =>
  intro s h
  unfold goF
  split
  ·exact h
  ·split
   ·exact h
   ·rename_i p hp
    split
    ·exact h
    ·rename_i x hx
     exact ih _ (h.leave hS hp hx hand t)
def nK (K:Nat→Bool) (R:List (Nat×Nat)):Nat:=R.countP (fun p=>K p.1)
theorem unv_le (K:Nat→Bool) (R:List (Nat×Nat)) (vis:List Bool):unvK K R vis≤nK K R:=by
 unfold unvK nK
 refine List.countP_mono_left ?_
 intro q _ hq
 simp only [Bool.and_eq_true] at hq
 exact hq.1
structure TabOk (code:List In) (T:Nat→List (Nat×Nat)):Prop where
 m:∀p,isTk code p=true→(p+1,0)∈T p∧ShutA code (T p)
def eqN (q a:Nat):Bool:=decide (a=q)
def tkW (code:List In) (T:Nat→List (Nat×Nat)) (k:Int) (K:Nat→Bool) (p:Nat):Nat :=
 match code[p]? with
 | some x=>if x.a=4∨x.a=k then nK K (T p) else 0
 | none=>0
structure Crd (code:List In) (c:Crw×Crw):Prop where
 wo:c.1.over=false
 eo:c.2.over=false
 tk:∀u∈c.1.l,0≤u.at'∧isTk code u.at'.toNat=true
theorem goOn_le {code:List In} {T:Nat→List (Nat×Nat)} (hT:TabOk code T) {c:Crw×Crw} (hc:Crd code c) (hand:Nmb) (t:Thr) (h0:0≤t.at') (ht:isTk code t.at'.toNat=true)
  (hw:((c.1.l.length+tkW code T hand.e.kind (isTk code) t.at'.toNat:Nat):Int)≤c.1.most) (he:((c.2.l.length+tkW code T hand.e.kind (isEd code) t.at'.toNat:Nat):Int)≤c.2.most) :
  Crd code (goOnS code hand c t)∧(∀q,cntW (goOnS code hand c t).1 q≤cntW c.1 q+tkW code T hand.e.kind (eqN q) t.at'.toNat) ∧
  (goOnS code hand c t).1.l.length≤c.1.l.length+tkW code T hand.e.kind (isTk code) t.at'.toNat∧(goOnS code hand c t).2.l.length≤c.2.l.length+tkW code T hand.e.kind (isEd code) t.at'.toNat ∧
  (goOnS code hand c t).1.most=c.1.most∧(goOnS code hand c t).2.most=c.2.most:=by
 obtain ⟨hm,hS⟩:=hT.m _ ht
 unfold goOnS
 cases hx:code[t.at'.toNat]? with
 | none=>simp [isTk,hx] at ht
 | some x =>
  simp only [tkW,hx] at hw he ⊢
  by_cases hk:x.a=4∨x.a=hand.e.kind
  ·rw [if_pos hk] at hw he ⊢
   have e1:t.at'+1=((t.at'.toNat+1:Nat):Int):=by omega
   have s0:Room code (T t.at'.toNat) (fun q=>cntW c.1 q+nK (eqN q) (T t.at'.toNat)) (c.1.l.length+nK (isTk code) (T t.at'.toNat)) (c.2.l.length+nK (isEd code) (T t.at'.toNat)) ⟨List.replicate (16*code.length) false,[],c.1,c.2⟩:=by
    refine ⟨fun p hp=>by simp at hp,?_,?_,?_,hw,he,hc.wo,hc.eo,hc.tk⟩
    ·intro q
     have:=unv_le (fun a=>decide (a=q)) (T t.at'.toNat) (List.replicate (16*code.length) false)
     show cntW c.1 q+(0+unvK (fun a=>decide (a=q)) (T t.at'.toNat) (List.replicate (16*code.length) false))≤cntW c.1 q+nK (eqN q) _
     have e:nK (eqN q) (T t.at'.toNat)=nK (fun a=>decide (a=q)) (T t.at'.toNat):=rfl
     omega
    ·have:=unv_le (isTk code) (T t.at'.toNat) (List.replicate (16*code.length) false)
     show c.1.l.length+(0+unvK (isTk code) (T t.at'.toNat) (List.replicate (16*code.length) false))≤_
     omega
    ·have:=unv_le (isEd code) (T t.at'.toNat) (List.replicate (16*code.length) false)
     show c.2.l.length+(0+unvK (isEd code) (T t.at'.toNat) (List.replicate (16*code.length) false))≤_
     omega
   have s1:=s0.rch hm
   rw [←e1] at s1
   have s2:=s1.go hS hand t (1+16*code.length)
   have hmost:∀(m:Nat) (s:Tn),(goF code hand t m s).wait.most=s.wait.most∧(goF code hand t m s).ended.most=s.ended.most:=by
    intro m
    induction m with
    | zero=>intro s;exact ⟨rfl,rfl⟩
    | succ m ih =>
     intro s
     unfold goF
     split
     ·exact ⟨rfl,rfl⟩
     ·split
      ·exact ⟨rfl,rfl⟩
      ·split
       ·exact ⟨rfl,rfl⟩
       ·rename_i p hp _ x hx
        obtain ⟨a1,a2⟩:=ih (lvS hand t { s with opn:=s.opn.dropLast } p.1 p.2 x)
        obtain ⟨b1,b2⟩:=lvS_most hand t { s with opn:=s.opn.dropLast } p.1 p.2 x
        exact ⟨a1.trans b1,a2.trans b2⟩
   obtain ⟨m1,m2⟩:=hmost (1+16*code.length) (rchS ⟨List.replicate (16*code.length) false,[],c.1,c.2⟩ (t.at'+1) 0)
   obtain ⟨r1,r2⟩:=rchS_wait ⟨List.replicate (16*code.length) false,[],c.1,c.2⟩ (t.at'+1) 0
   refine ⟨⟨s2.wo,s2.eo,s2.tk⟩,?_,?_,?_,?_,?_⟩
   ·intro q;have:=s2.q q;simp only [if_pos hk] at this ⊢;omega
   ·have:=s2.w;simp only [if_pos hk] at this ⊢;omega
   ·have:=s2.e;simp only [if_pos hk] at this ⊢;omega
   ·simp only [m1,r1]
   ·simp only [m2,r2]
  ·rw [if_neg hk]
   refine ⟨hc,?_,?_,?_,rfl,rfl⟩
   ·intro q;omega
   ·omega
   ·omega
def sumT (h:Nat→Nat) (ts:List Thr):Nat:=(ts.map (fun t=>h t.at'.toNat)).sum
theorem fold_le {code:List In} {T:Nat→List (Nat×Nat)} (hT:TabOk code T) (hand:Nmb):∀(ts:List Thr) (c:Crw×Crw),Crd code c→(∀t∈ts,0≤t.at'∧isTk code t.at'.toNat=true) →
  ((c.1.l.length+sumT (tkW code T hand.e.kind (isTk code)) ts:Nat):Int)≤c.1.most→((c.2.l.length+sumT (tkW code T hand.e.kind (isEd code)) ts:Nat):Int)≤c.2.most →
  Crd code (ts.foldl (goOnS code hand) c)∧(∀q,cntW (ts.foldl (goOnS code hand) c).1 q≤cntW c.1 q+sumT (tkW code T hand.e.kind (eqN q)) ts) ∧
  (ts.foldl (goOnS code hand) c).1.l.length≤c.1.l.length+sumT (tkW code T hand.e.kind (isTk code)) ts∧(ts.foldl (goOnS code hand) c).2.l.length≤c.2.l.length+sumT (tkW code T hand.e.kind (isEd code)) ts ∧
  (ts.foldl (goOnS code hand) c).1.most=c.1.most∧(ts.foldl (goOnS code hand) c).2.most=c.2.most:=by
 intro ts
 induction ts with
 | nil=>intro c hc _ _ _;exact ⟨hc,fun q=>by simp [sumT],by simp [sumT],by simp [sumT],rfl,rfl⟩
 | cons t ts ih =>
  intro c hc hts hw he
  have e1:∀h:Nat→Nat,sumT h (t::ts)=h t.at'.toNat+sumT h ts:=fun h=>by simp [sumT]
  simp only [e1] at hw he ⊢
  obtain ⟨a0,a1⟩:=hts t (by simp)
  obtain ⟨g1,g2,g3,g4,g5,g6⟩:=goOn_le hT hc hand t a0 a1 (by omega) (by omega)
  rw [List.foldl_cons]
  obtain ⟨i1,i2,i3,i4,i5,i6⟩:=ih (goOnS code hand c t) g1 (fun u hu=>hts u (by simp [hu])) (by omega) (by omega)
  refine ⟨i1,?_,by omega,by omega,by rw [i5,g5],by rw [i6,g6]⟩
  intro q
  have:=i2 q
  have:=g2 q
  omega
theorem sum_count (h:Nat→Nat) (U:Nat→Nat) (ps:List Nat):∀(ts:List Thr),ps.Nodup→(∀t∈ts,0≤t.at'∧t.at'.toNat∈ps)→sumT h ts=(ps.map (fun (p:Nat)=>ts.countP (fun t=>decide (t.at'=(p:Int)))*h p)).sum:=by
 intro ts hn
 induction ts with
 | nil =>
  intro _
  have:∀l:List Nat,(l.map (fun (p:Nat)=>([]:List Thr).countP (fun t=>decide (t.at'=(p:Int)))*h p)).sum=0:=by
   intro l
   induction l with
   | nil=>rfl
   | cons p l ih=>simp only [List.map_cons,List.sum_cons,ih];simp
  rw [this];rfl
 | cons t ts ih =>
  intro hts
  have e1:sumT h (t::ts)=h t.at'.toNat+sumT h ts:=by simp [sumT]
  rw [e1,ih (fun u hu=>hts u (by simp [hu]))]
  obtain ⟨a0,a1⟩:=hts t (by simp)
  have key:∀(l:List Nat),l.Nodup→(l.map (fun (p:Nat)=>(t::ts).countP (fun t=>decide (t.at'=(p:Int)))*h p)).sum=(if t.at'.toNat∈l then h t.at'.toNat else 0)+(l.map (fun (p:Nat)=>ts.countP (fun t=>decide (t.at'=(p:Int)))*h p)).sum:=by
   intro l
   induction l with
   | nil=>intro _;simp
   | cons p l ihl =>
    intro hnd
    have hnd':=List.nodup_cons.1 hnd
    simp only [List.map_cons,List.sum_cons]
    rw [ihl hnd'.2,List.countP_cons]
    by_cases e:t.at'.toNat=p
    ·have e2:t.at'=(p:Int):=by omega
     have e3:¬t.at'.toNat∈l:=by rw [e];exact hnd'.1
     have m1:t.at'.toNat∈p::l:=by rw [e];simp
     have d1:(decide (t.at'=(p:Int)))=true:=by simpa using e2
     rw [if_neg e3,if_pos m1,if_pos d1,e,Nat.add_mul]
     omega
    ·have e2:¬t.at'=(p:Int):=by omega
     have d1:¬(decide (t.at'=(p:Int)))=true:=by simpa using e2
     rw [if_neg d1]
     by_cases e3:t.at'.toNat∈l
     ·rw [if_pos e3,if_pos (by simp [e3])];simp;omega
     ·rw [if_neg e3,if_neg (by simp [e3];omega)];simp
  rw [key ps hn,if_pos a1]
theorem sum_mono {f g:Nat→Nat}:∀l:List Nat,(∀p∈l,f p≤g p)→(l.map f).sum≤(l.map g).sum:=by
 intro l
 induction l with
 | nil=>intro _;simp
 | cons p l ih =>
  intro h
  simp only [List.map_cons,List.sum_cons]
  have:=h p (by simp)
  have:=ih (fun q hq=>h q (by simp [hq]))
  omega
def tksL (code:List In):List Nat:=(List.range code.length).filter (isTk code)
theorem tks_nodup (code:List In):(tksL code).Nodup:=List.nodup_range.sublist List.filter_sublist
theorem tks_mem {code:List In} {p:Nat}:p∈tksL code↔isTk code p=true:=by
 unfold tksL
 rw [List.mem_filter,List.mem_range]
 constructor
 ·exact fun h=>h.2
 ·intro h
  refine ⟨?_,h⟩
  unfold isTk at h
  cases hx:code[p]? with
  | none=>rw [hx] at h;cases h
  | some x=>exact (List.getElem?_eq_some_iff.1 hx).1
def totU (code:List In) (T:Nat→List (Nat×Nat)) (bs:List Nat) (U:Nat→Nat) (k:Int) (K:Nat→Bool):Nat :=
 ((tksL code).map (fun p=>U p*tkW code T k K p)).sum+(bs.map (tkW code T k K)).sum
structure WsOk (code:List In) (U:Nat→Nat) (ws:List Thr):Prop where
 tk:∀u∈ws,0≤u.at'∧isTk code u.at'.toNat=true
 n:∀q:Nat,ws.countP (fun t=>decide (t.at'=(q:Int)))≤U q
theorem sumT_le {code:List In} {U:Nat→Nat} {ws:List Thr} (h:WsOk code U ws) (g:Nat→Nat):sumT g ws≤((tksL code).map (fun p=>U p*g p)).sum:=by
 rw [sum_count g U (tksL code) ws (tks_nodup code) (fun t ht=>⟨(h.tk t ht).1,tks_mem.2 (h.tk t ht).2⟩)]
 exact sum_mono _ (fun p _=>Nat.mul_le_mul_right _ (h.n p))
theorem step_ok {code:List In} {T:Nat→List (Nat×Nat)} (hT:TabOk code T) {bs:List Nat} (hb:∀b∈bs,isTk code b=true) {U:Nat→Nat} {ws:List Thr} (h:WsOk code U ws) (hand:Nmb) {live found:Nat}
  (hw:totU code T bs U hand.e.kind (isTk code)≤live) (he:totU code T bs U hand.e.kind (isEd code)≤found) :
  (stepS code hand ws bs live found).1.over=false∧(stepS code hand ws bs live found).2.over=false∧WsOk code (fun q=>totU code T bs U hand.e.kind (eqN q)) (stepS code hand ws bs live found).1.l:=by
 have hs:∀K,sumT (tkW code T hand.e.kind K) ws+(bs.map (tkW code T hand.e.kind K)).sum≤totU code T bs U hand.e.kind K:=fun K=>by
  have:=sumT_le h (tkW code T hand.e.kind K)
  unfold totU
  omega
 have hbs:∀g:Nat→Nat,sumT g (bs.map (fun b:Nat=>newT (b:Int) hand))=(bs.map g).sum:=by
  intro g
  unfold sumT
  rw [List.map_map]
  congr 1
 have c0:Crd code (⟨[],(live:Int),false⟩,⟨[],(found:Int),false⟩):=⟨rfl,rfl,fun u hu=>by simp at hu⟩
 have a1:=hs (isTk code)
 have a2:=hs (isEd code)
 obtain ⟨f1,f2,f3,f4,f5,f6⟩:=fold_le hT hand ws (⟨[],(live:Int),false⟩,⟨[],(found:Int),false⟩) c0 h.tk (by simp;omega) (by simp;omega)
 simp only [List.length_nil,Nat.zero_add] at f3 f4 f5 f6
 have hnt:∀t∈bs.map (fun b:Nat=>newT (b:Int) hand),0≤t.at'∧isTk code t.at'.toNat=true:=by
  intro t ht
  obtain ⟨b,hb1,rfl⟩:=List.mem_map.1 ht
  exact ⟨by simp [newT],by simpa [newT] using hb b hb1⟩
 obtain ⟨g1,g2,g3,g4,g5,g6⟩:=fold_le hT hand (bs.map (fun b:Nat=>newT (b:Int) hand)) (ws.foldl (goOnS code hand) (⟨[],(live:Int),false⟩,⟨[],(found:Int),false⟩)) f1 hnt (by rw [f5,hbs];omega) (by rw [f6,hbs];omega)
 refine ⟨g1.wo,g1.eo,g1.tk,?_⟩
 intro q
 have e1:=g2 q
 have e2:=f2 q
 rw [hbs] at e1
 have e3:=hs (eqN q)
 have e4:cntW (⟨[],(live:Int),false⟩:Crw) q=0:=rfl
 simp only [e4,Nat.zero_add] at e2
 show cntW (stepS code hand ws bs live found).1 q≤_
 unfold stepS
 omega
def nextU (code:List In) (T:Nat→List (Nat×Nat)) (bs:List Nat) (ul:List Nat):List Nat :=
 (List.range code.length).map fun q=>max (totU code T bs (fun p=>ul.getD p 0) 0 (eqN q)) (max (totU code T bs (fun p=>ul.getD p 0) 1 (eqN q)) (totU code T bs (fun p=>ul.getD p 0) 2 (eqN q)))
def limB (code:List In) (T:Nat→List (Nat×Nat)) (bs:List Nat) (live found:Nat):Nat→List Nat→Bool
 | 0,_=>true
 | n+1,ul=>([0,1,2]:List Int).all (fun k=>decide (totU code T bs (fun p=>ul.getD p 0) k (isTk code)≤live)&&decide (totU code T bs (fun p=>ul.getD p 0) k (isEd code)≤found))&&limB code T bs live found n (nextU code T bs ul)
theorem WsOk.mono {code:List In} {U V:Nat→Nat} {ws:List Thr} (h:WsOk code U ws) (hl:∀q,q<code.length→U q≤V q):WsOk code V ws:=by
 refine ⟨h.tk,fun q => ?_⟩
 by_cases hq:q<code.length
 ·exact Nat.le_trans (h.n q) (hl q hq)
 ·have:ws.countP (fun t=>decide (t.at'=(q:Int)))=0:=by
   rw [List.countP_eq_zero]
   intro u hu
   obtain ⟨h0,h1⟩:=h.tk u hu
   have:=tks_mem.2 h1
   unfold tksL at this
   rw [List.mem_filter,List.mem_range] at this
   simp only [decide_eq_true_eq]
   omega
  omega
def GoesE (sc:List Int):Int→List Evt→Prop
 | _,[]=>True
 | now,e::l=>(e.kind=0∨e.kind=1∨e.kind=2)∧goodE sc e=true∧now≤e.at'∧GoesE sc e.at' l
def runS (sc:List Int) (l:List In) (bs:List Nat) (live found:Int) (r:Rst) (L:List Evt):Rst:=L.foldl (fun r e=>(feedS sc l bs live found r e).1) r
theorem runS_cons (sc:List Int) (l:List In) (bs:List Nat) (live found:Int) (r:Rst) (e:Evt) (L:List Evt):runS sc l bs live found r (e::L)=runS sc l bs live found (feedS sc l bs live found r e).1 L:=rfl
theorem feed_free {sc:List Int} {code:List In} {T:Nat→List (Nat×Nat)} (hT:TabOk code T) {bs:List Nat} (hb:∀b∈bs,isTk code b=true) {live found:Nat} {U:Nat→Nat} {r:Rst} {e:Evt} (hws:WsOk code U r.ws) (hsp:r.spent=false) (hg:goodE sc e=true) (ht:r.last≤e.at')
  (hw:totU code T bs U e.kind (isTk code)≤live) (he:totU code T bs U e.kind (isEd code)≤found) :
  (feedS sc code bs live found r e).2.2=0∧(feedS sc code bs live found r e).1.spent=false∧(feedS sc code bs live found r e).1.last=e.at'∧(feedS sc code bs live found r e).1.count=r.count+1∧WsOk code (fun q=>totU code T bs U e.kind (eqN q)) (feedS sc code bs live found r e).1.ws:=by
 obtain ⟨s1,s2,s3⟩:=step_ok hT hb hws ⟨r.count,e⟩ hw he
 unfold feedS
 rw [if_neg (by simp [hsp]),if_neg (by simp [hg];omega),if_neg (by simp [s1,s2])]
 exact ⟨rfl,hsp,rfl,rfl,s3⟩
theorem free_all {sc:List Int} {code:List In} {T:Nat→List (Nat×Nat)} (hT:TabOk code T) {bs:List Nat} (hb:∀b∈bs,isTk code b=true) {live found:Nat}:∀(n:Nat) (ul:List Nat) (L:List Evt) (r:Rst),L.length≤n→limB code T bs live found n ul=true→WsOk code (fun p=>ul.getD p 0) r.ws→r.spent=false→GoesE sc r.last L →
  ∀i e,L[i]? = some e→(feedS sc code bs live found (runS sc code bs live found r (L.take i)) e).2.2=0∧(runS sc code bs live found r (L.take i)).count=r.count+i:=by
 intro n
 induction n with
 | zero=>intro ul L r hL _ _ _ _ i e hi;have:L=[]:=List.length_eq_zero_iff.1 (by omega);subst this;simp at hi
 | succ n ih =>
  intro ul L r hL hlim hws hsp hgo i e hi
  match L,hL,hgo,hi with
  | e0::L',hL,hgo,hi =>
   obtain ⟨hk,hg,ht,hgo'⟩:=hgo
   unfold limB at hlim
   simp only [Bool.and_eq_true,List.all_cons,List.all_nil,decide_eq_true_eq,and_true] at hlim
   obtain ⟨⟨⟨w0,f0⟩,⟨w1,f1⟩,w2,f2⟩,hlim'⟩:=hlim
   have hw:totU code T bs (fun p=>ul.getD p 0) e0.kind (isTk code)≤live∧totU code T bs (fun p=>ul.getD p 0) e0.kind (isEd code)≤found:=by
    rcases hk with h|h|h <;> rw [h]
    ·exact ⟨w0,f0⟩
    ·exact ⟨w1,f1⟩
    ·exact ⟨w2,f2⟩
   obtain ⟨z1,z2,z3,z4,z5⟩:=feed_free (sc:=sc) hT hb hws hsp hg ht hw.1 hw.2
   match i,hi with
   | 0,hi =>
    simp only [List.getElem?_cons_zero,Option.some.injEq] at hi
    subst hi
    exact ⟨z1,rfl⟩
   | i+1,hi =>
    have hws':WsOk code (fun p=>(nextU code T bs ul).getD p 0) (feedS sc code bs live found r e0).1.ws:=by
     refine z5.mono ?_
     intro q hq
     have e1:(nextU code T bs ul).getD q 0=max (totU code T bs (fun p=>ul.getD p 0) 0 (eqN q)) (max (totU code T bs (fun p=>ul.getD p 0) 1 (eqN q)) (totU code T bs (fun p=>ul.getD p 0) 2 (eqN q))):=by
      unfold nextU
      simp [List.getD,hq]
     rw [e1]
     rcases hk with h|h|h <;> rw [h] <;> omega
    have:=ih (nextU code T bs ul) L' (feedS sc code bs live found r e0).1 (by simpa using hL) hlim' hws' z2 (by rw [z3];exact hgo') i e (by simpa using hi)
    rw [List.take_succ_cons,runS_cons]
    refine ⟨this.1,?_⟩
    rw [this.2,z4];omega
theorem addChain_any (R s:Nat) (tv cv:Value) (S:List Nat) (l:List In) (w:World) (h:CwM w R tv cv S l) (hs:s<2 ^ 25) (hS:S.length≤10000) (hN:l.length+S.length≤100000) :
  Calls Tryz.prog 47 #[.pointer (some ⟨R,0,none⟩),.int .i64 s] w fun e w' =>
   e=.returned (.tuple #[])∧∃cv',CwM w' R tv cv' S (l++chainS s S 0 (countS s) l.length)∧Kp (fun b=>R≤b) w w':=by
 have HH:Hid (∀p W,p≤100000→Calls Tryz.prog 76 #[.int .i64 s,.int .i64 (p:Nat)] W fun e w'=>e=.returned (.bool (hasS s p))∧w'=W):=fun p W hp=>hasS_any s p W hs hp
 have H:Hid (CwM w R tv cv S l):=h
 have hcl:countS s≤25:=cntS_le s 25
 have hcnt:=countS_any s w hs
 obtain ⟨tp,tc,rfl⟩:=ownsLenX h.so
 clear h
 generalize hL0:countS s=L0 at *
 go_enter Tryz.func47,Tryz.ntmps47
 go_wp2_with fail
 refine hcnt.mono ?_
 rintro e w0 ⟨rfl,hw0⟩
 have hw0':=hw0.symm
 subst hw0'
 clear hw0 hcnt
 go_wp2
 go_loopg [4,5] S.length (fun m v4 v5 wr=>∃(i:Nat) (left:Int) (cv':Value) (l':List In),v4=.int .i64 left∧v5=.int .i64 i∧m=S.length - i∧i≤S.length∧left≤25 ∧ -(i:Int)≤left∧l'.length≤l.length+i∧CwM wr R (.slice tp S.length tc) cv' S l'∧l'++chainS s (S.drop i) i left l'.length=l++chainS s S 0 L0 l.length∧Kp (fun b=>R≤b) w wr)
 case atStart=>exact ⟨0,L0,cv,l,rfl,rfl,rfl,by omega,by omega,by omega,by omega,H.out,rfl,Kp.refl _ _⟩
 case round =>
  obtain ⟨i,left,cv',l',rfl,rfl,hm,hi,hl1,hl2,hl3,hw,he,hk⟩:=hrel
  have HM:Hid (_=S.length - i):=hm
  have HW:Hid (CwM wr R (.slice tp S.length tc) cv' S l'):=hw
  have HK:Hid (Kp (fun b=>R≤b) w wr):=hk
  have HE:Hid (l'++chainS s (S.drop i) i left l'.length=l++chainS s S 0 L0 l.length):=he
  have c0:=hw.c0
  have hltR:=hw.lt
  clear hm hw hk he
  by_cases hil:i<S.length
  ·obtain ⟨x,hx⟩:∃x,S[i]? = some x:=⟨_,List.getElem?_eq_getElem hil⟩
   have HX:Hid (S[i]? = some x):=hx
   have HDR:Hid (S.drop i=x::S.drop (i+1)):=by
    obtain ⟨h1,h2⟩:=List.getElem?_eq_some_iff.1 hx
    show S.drop i=_
    rw [List.drop_eq_getElem_cons h1,h2]
   clear hx
   obtain ⟨g,c,hvg⟩:=owns_some HW.out.so (by omega)
   simp only [Value.slice.injEq] at hvg
   obtain ⟨rfl,_,rfl⟩:=hvg
   have cx:wr.cell? ⟨g,i,none⟩=some (.int .i64 x):=owns_cell HW.out.so i (intsV_get HX.out)
   have hgR:g<R:=HW.out.sb g rfl
   have hgl:g<wr.heap.size:=by omega
   go_wp2_with fail
   refine (HH.out i _ (by omega)).mono ?_
   rintro e w1 ⟨rfl,hw1⟩
   have hw2:=hw1.symm
   subst hw2
   clear hw1
   by_cases hb:hasS s i=true
   ·have HE2:Hid (l'++((if left - 1>0 then splitI x (l'.length+1) else jumpI x)::chainS s (S.drop (i+1)) (i+1) (left - 1) (l'.length+1))=l++chainS s S 0 L0 l.length):=by
     have:=HE.out
     rw [HDR.out] at this
     simp only [chainS,hb,if_true] at this
     exact this
    clear HE HDR
    rw [hb]
    obtain ⟨cp,cc,hcv⟩:=ownsLenX HW.out.co
    subst hcv
    have c1:=HW.out.c1
    by_cases hz:left - 1>0
    ·rw [if_pos hz] at HE2
     go_wp2
     go_region
     all_goals
      go_wp2_with fail
      refine (add_any R _ _ S l' (splitI x (l'.length+1)) _ (HW.out.nw (((Kp.refl _ wr).alloc _).drew)) (by omega)).mono ?_
      rintro e w1 ⟨rfl,cv2,hC,hk1⟩
      have HC:Hid (CwM w1 R (.slice (some ⟨g,0,none⟩) S.length tc) cv2 S (l'++[splitI x (l'.length+1)])):=hC
      have HK1:Hid (Kp (fun b=>R≤b) wr w1):=((((Kp.refl (fun _=>False) wr).alloc _).drew).mono (fun _ _ h=>h.elim)).trans hk1
      clear hC hk1
      go_wp2
      go_roundg (S.length - (i+1))
      case measure=>rw [HM.out];omega
      case rel=>exact ⟨i+1,left - 1,cv2,l'++[splitI x (l'.length+1)],by simp,by simp,rfl,by omega,by omega,by omega,by simp;omega,HC.out,by have:=HE2.out;simpa [List.append_assoc] using this,HK.out.trans HK1.out⟩
    ·rw [if_neg hz] at HE2
     go_wp2_with fail
     refine (add_any R _ _ S l' (jumpI x) _ (HW.out.nw ((Kp.refl _ wr).alloc _)) (by omega)).mono ?_
     rintro e w1 ⟨rfl,cv2,hC,hk1⟩
     have HC:Hid (CwM w1 R (.slice (some ⟨g,0,none⟩) S.length tc) cv2 S (l'++[jumpI x])):=hC
     have HK1:Hid (Kp (fun b=>R≤b) wr w1):=(((Kp.refl (fun _=>False) wr).alloc _).mono (fun _ _ h=>h.elim)).trans hk1
     clear hC hk1
     go_wp2
     go_roundg (S.length - (i+1))
     case measure=>rw [HM.out];omega
     case rel=>exact ⟨i+1,left - 1,cv2,l'++[jumpI x],by simp,by simp,rfl,by omega,by omega,by omega,by simp;omega,HC.out,by have:=HE2.out;simpa [List.append_assoc] using this,HK.out.trans HK1.out⟩
   ·have hb':hasS s i=false:=by simpa using hb
    have HE2:Hid (l'++chainS s (S.drop (i+1)) (i+1) left l'.length=l++chainS s S 0 L0 l.length):=by
     have:=HE.out
     rw [HDR.out] at this
     simp only [chainS,hb'] at this
     exact this
    clear HE HDR
    rw [hb']
    go_wp2
    go_roundg (S.length - (i+1))
    case measure=>rw [HM.out];omega
    case rel=>exact ⟨i+1,left,cv',l',rfl,by simp,rfl,by omega,by omega,by omega,by omega,HW.out,HE2.out,HK.out⟩
  ·have hie:i=S.length:=by omega
   subst hie
   have HF:Hid (l'=l++chainS s S 0 L0 l.length):=by
    have:=HE.out
    rw [List.drop_length] at this
    show l'=_
    simpa [chainS] using this
   go_wp2
   go_end0
   exact ⟨rfl,cv',HF.out ▸ HW.out,HK.out⟩
end Go.Proofs.YtcboiapggnmpfaaGreatDoor
