import Derived.Test.YtcboiapggnmpfaaGreatDoorQbt
import Derived.Test.YtcboiapggnmpfaaGreatDoorQam
import Derived.Test.YtcboiapggnmpfaaGreatDoorQal
import Derived.Deep.MidRow
import Derived.Deep.LoopGhost
namespace Go.Proofs.YtcboiapggnmpfaaGreatDoor
set_option maxRecDepth 100000
set_option maxHeartbeats 4000000
set_option linter.unusedSimpArgs false
set_option linter.unusedVariables false
open Go.RowKit
theorem ahead_iff (t o:Thr):aheadB t o=true↔(t.first<o.first∨(t.first=o.first∧(t.h0.n<o.h0.n∨(t.h0.n=o.h0.n∧(t.h1.n<o.h1.n∨(t.h1.n=o.h1.n∧(t.h2.n<o.h2.n∨(t.h2.n=o.h2.n∧(t.h3.n<o.h3.n∨(t.h3.n=o.h3.n∧t.at'<o.at')))))))))):=by
 unfold aheadB
 simp only [aheadF,Thr.hd]
 split
 ·split
  ·split
   ·split
    ·split
     ·simp only [decide_eq_true_eq];omega
     ·simp only [decide_eq_true_eq];omega
    ·simp only [decide_eq_true_eq];omega
   ·simp only [decide_eq_true_eq];omega
  ·simp only [decide_eq_true_eq];omega
 ·simp only [decide_eq_true_eq];omega
theorem ahead_trans {a b c:Thr} (h1:aheadB a b=true) (h2:aheadB b c=true):aheadB a c=true:=by
 rw [ahead_iff] at *;omega
theorem ahead_irr {a:Thr}:¬aheadB a a=true:=by
 rw [ahead_iff];omega
theorem ahead_asym {a b:Thr} (h1:aheadB a b=true):¬aheadB b a=true:=fun h2=>ahead_irr (ahead_trans h1 h2)
def Srt (l:List Thr):Prop:=l.Pairwise (fun a b=>aheadB a b=true)
theorem Srt.at {l:List Thr} (h:Srt l) {i j:Nat} {a b:Thr} (hij:i<j) (ha:l[i]? = some a) (hb:l[j]? = some b):aheadB a b=true:=by
 obtain ⟨h1,rfl⟩:=List.getElem?_eq_some_iff.1 ha
 obtain ⟨h2,rfl⟩:=List.getElem?_eq_some_iff.1 hb
 exact (List.pairwise_iff_getElem.1 h) i j h1 h2 hij
theorem Srt.eq:∀ {l l':List Thr},Srt l→Srt l'→(∀u,u∈l↔u∈l')→l=l':=by
 intro l
 induction l with
 | nil =>
  intro l' _ _ h
  cases l' with
  | nil=>rfl
  | cons b r=>exact absurd ((h b).2 List.mem_cons_self) (by simp)
 | cons a r ih =>
  intro l' h1 h2 h
  cases l' with
  | nil=>exact absurd ((h a).1 List.mem_cons_self) (by simp)
  | cons b r' =>
   have p1:=List.pairwise_cons.1 h1
   have p2:=List.pairwise_cons.1 h2
   have hab:a=b:=by
    rcases List.mem_cons.1 ((h a).1 List.mem_cons_self) with e|e
    ·exact e
    ·rcases List.mem_cons.1 ((h b).2 List.mem_cons_self) with e2|e2
     ·exact e2.symm
     ·exact absurd (p1.1 b e2) (ahead_asym (p2.1 a e))
   subst hab
   rw [ih p1.2 p2.2]
   intro u
   constructor
   ·intro hu
    rcases List.mem_cons.1 ((h u).1 (List.mem_cons_of_mem _ hu)) with e|e
    ·subst e;exact absurd (p1.1 _ hu) ahead_irr
    ·exact e
   ·intro hu
    rcases List.mem_cons.1 ((h u).2 (List.mem_cons_of_mem _ hu)) with e|e
    ·subst e;exact absurd (p2.1 _ hu) ahead_irr
    ·exact e
theorem plcFT_spec {l:List Thr} {t:Thr} (hs:Srt l):∀(m lo hi:Nat),lo≤hi→hi≤l.length→hi - lo≤m→(∀i u,i<lo→l[i]? = some u→aheadB u t=true)→(∀i u,hi≤i→l[i]? = some u→¬aheadB u t=true) →
  (∀i u,i<plcFT l t m lo hi→l[i]? = some u→aheadB u t=true)∧(∀i u,plcFT l t m lo hi≤i→l[i]? = some u→¬aheadB u t=true):=by
 intro m
 induction m with
 | zero =>
  intro lo hi h1 h2 h3 ha hb
  unfold plcFT
  exact ⟨ha,fun i u hi2 hu=>hb i u (by omega) hu⟩
 | succ m ih =>
  intro lo hi h1 h2 h3 ha hb
  unfold plcFT
  by_cases hlt:lo<hi
  ·rw [if_pos hlt]
   have hm1:lo+(hi - lo) / 2<hi:=by omega
   obtain ⟨v,hv⟩:∃v,l[lo+(hi - lo) / 2]? = some v:=⟨l[lo+(hi - lo) / 2]'(by omega),by simp⟩
   rw [hv]
   simp only
   split
   ·rename_i hav
    refine ih _ _ (by omega) h2 (by omega) ?_ hb
    intro i u hi2 hu
    by_cases e:i=lo+(hi - lo) / 2
    ·subst e;rw [hv] at hu;cases hu;exact hav
    ·exact ahead_trans (hs.at (by omega) hu hv) hav
   ·rename_i hav
    refine ih _ _ (by omega) (by omega) (by omega) ha ?_
    intro i u hi2 hu hau
    by_cases e:i=lo+(hi - lo) / 2
    ·subst e;rw [hv] at hu;cases hu;exact hav hau
    ·exact hav (ahead_trans (hs.at (by omega) hv hu) hau)
  ·rw [if_neg hlt]
   exact ⟨ha,fun i u hi2 hu=>hb i u (by omega) hu⟩
theorem plcT_spec {l:List Thr} {t:Thr} (hs:Srt l):(∀i u,i<plcT l t→l[i]? = some u→aheadB u t=true)∧(∀i u,plcT l t≤i→l[i]? = some u→¬aheadB u t=true) :=
 plcFT_spec hs _ _ _ (by omega) (by omega) (by omega) (fun i u h=>by omega) (fun i u h hu=>by have:=(List.getElem?_eq_some_iff.1 hu).1;omega)
theorem addC_srt {c:Crw} {t:Thr} (hs:Srt c.l) (hk:∀u∈c.l,u=t∨aheadB u t=true∨aheadB t u=true):Srt (addC c t).l:=by
 obtain ⟨h1,h2⟩:=plcT_spec (t:=t) hs
 unfold addC
 split
 ·exact hs
 split
 ·exact hs
 ·rename_i e1 e2
  show Srt (c.l.take (plcT c.l t)++t::c.l.drop (plcT c.l t))
  have hle:=plcT_le c.l t
  have hA:∀u∈c.l.take (plcT c.l t),aheadB u t=true:=by
   intro u hu
   obtain ⟨i,hi⟩:=List.mem_iff_getElem?.1 hu
   rw [List.getElem?_take] at hi
   split at hi
   ·exact h1 i u (by omega) hi
   ·cases hi
  have hB:∀u∈c.l.drop (plcT c.l t),aheadB t u=true:=by
   intro u hu
   obtain ⟨i,hi⟩:=List.mem_iff_getElem?.1 hu
   rw [List.getElem?_drop] at hi
   have hna:=h2 _ u (by omega) hi
   rcases hk u (List.mem_of_mem_drop hu) with e|e|e
   ·subst e
    exfalso
    by_cases ei:i=0
    ·subst ei;exact e1 (by simpa using hi)
    ·obtain ⟨v,hv⟩:∃v,c.l[plcT c.l u]? = some v:=⟨c.l[plcT c.l u]'(by have:=(List.getElem?_eq_some_iff.1 hi).1;omega),by simp⟩
     exact h2 _ v (by omega) hv (hs.at (by omega) hv hi)
   ·exact absurd e hna
   ·exact e
  refine List.pairwise_append.2 ⟨List.Pairwise.sublist (List.take_sublist _ _) hs,List.pairwise_cons.2 ⟨hB,List.Pairwise.sublist (List.drop_sublist _ _) hs⟩,?_⟩
  intro a ha b hb
  rcases List.mem_cons.1 hb with e|e
  ·subst e;exact hA a ha
  ·exact ahead_trans (hA a ha) (hB b e)
structure Tru (L:List Evt) (t:Thr):Prop where
 f:∃(n:Nat) (e:Evt),t.first=n∧L[n]? = some e∧t.began=e.at'
 h:∀k,t.hd k=nmb0∨∃n:Nat,(t.hd k).n=n∧L[n]? = some (t.hd k).e
theorem nmb_tri {L:List Evt} {a b:Nmb} (ha:a=nmb0∨∃n:Nat,a.n=n∧L[n]? = some a.e) (hb:b=nmb0∨∃n:Nat,b.n=n∧L[n]? = some b.e) (h:a.n=b.n):a=b:=by
 obtain ⟨an,ae⟩:=a
 obtain ⟨bn,be⟩:=b
 simp only [nmb0,Nmb.mk.injEq] at *
 subst h
 rcases ha with ⟨h1,rfl⟩ | ⟨n,h1,h2⟩ <;> rcases hb with ⟨h3,rfl⟩ | ⟨m,h3,h4⟩
 ·exact ⟨rfl,rfl⟩
 ·omega
 ·omega
 ·have:n=m:=by omega
  subst this
  rw [h2] at h4
  cases h4
  exact ⟨rfl,rfl⟩
theorem Tru.tri {L:List Evt} {u t:Thr} (hu:Tru L u) (ht:Tru L t):u=t∨aheadB u t=true∨aheadB t u=true:=by
 by_cases h1:aheadB u t=true
 ·exact Or.inr (Or.inl h1)
 by_cases h2:aheadB t u=true
 ·exact Or.inr (Or.inr h2)
 left
 rw [ahead_iff] at h1 h2
 have e0:u.first=t.first:=by omega
 have e1:u.h0.n=t.h0.n:=by omega
 have e2:u.h1.n=t.h1.n:=by omega
 have e3:u.h2.n=t.h2.n:=by omega
 have e4:u.h3.n=t.h3.n:=by omega
 have e5:u.at'=t.at':=by omega
 have f0:=nmb_tri (hu.h 0) (ht.h 0) e1
 have f1:=nmb_tri (hu.h 1) (ht.h 1) e2
 have f2:=nmb_tri (hu.h 2) (ht.h 2) e3
 have f3:=nmb_tri (hu.h 3) (ht.h 3) e4
 have e6:u.began=t.began:=by
  obtain ⟨n,e,a1,a2,a3⟩:=hu.f
  obtain ⟨m,e',b1,b2,b3⟩:=ht.f
  have:n=m:=by omega
  subst this
  rw [a2] at b2
  cases b2
  rw [a3,b3]
 cases u;cases t
 simp only [Thr.hd] at *
 simp_all
theorem held_tru {L:List Evt} {i:Nat} {e:Evt} (he:L[i]? = some e) {t:Thr} (ht:Tru L t) (p:Int) (an:Nat):heldS ⟨i,e⟩ t p an=nmb0∨∃n:Nat,(heldS ⟨i,e⟩ t p an).n=n∧L[n]? = some (heldS ⟨i,e⟩ t p an).e:=by
 unfold heldS
 split
 ·exact Or.inr ⟨i,rfl,he⟩
 split
 ·exact Or.inl rfl
 ·exact ht.h _
theorem thread_tru {L:List Evt} {i:Nat} {e:Evt} (he:L[i]? = some e) {t:Thr} (ht:Tru L t) (a:Int) (an:Nat):Tru L (threadS ⟨i,e⟩ t a an):=by
 refine ⟨ht.f,?_⟩
 intro k
 match k with
 | 0=>exact held_tru he ht 0 an
 | 1=>exact held_tru he ht 1 an
 | 2=>exact held_tru he ht 2 an
 | (k+3)=>exact held_tru he ht 3 an
theorem new_tru {L:List Evt} {i:Nat} {e:Evt} (he:L[i]? = some e) (a:Int):Tru L (newT a ⟨i,e⟩):=by
 refine ⟨⟨i,e,rfl,he,rfl⟩,?_⟩
 intro k
 left
 match k with
 | 0=>rfl
 | 1=>rfl
 | 2=>rfl
 | (k+3)=>rfl
def SrtC (L:List Evt) (c:Crw):Prop:=Srt c.l∧∀u∈c.l,Tru L u
theorem addC_sub {c:Crw} {t u:Thr} (h:u∈(addC c t).l):u∈c.l∨u=t:=by
 unfold addC at h
 split at h
 ·exact Or.inl h
 ·split at h
  ·exact Or.inl h
  ·rcases List.mem_append.1 h with e|e
   ·exact Or.inl (List.mem_of_mem_take e)
   ·rcases List.mem_cons.1 e with e|e
    ·exact Or.inr e
    ·exact Or.inl (List.mem_of_mem_drop e)
theorem SrtC.add {L:List Evt} {c:Crw} {t:Thr} (h:SrtC L c) (ht:Tru L t):SrtC L (addC c t):=by
 refine ⟨addC_srt h.1 (fun u hu=>(h.2 u hu).tri ht),?_⟩
 intro u hu
 rcases addC_sub hu with h1|h1
 ·exact h.2 u h1
 ·subst h1;exact ht
theorem lv_srt {L:List Evt} {hand:Nmb} {t:Thr} (ht:∀a an,Tru L (threadS hand t a an)) (s:Tn) (a:Int) (an:Nat) (x:In) (h:SrtC L s.wait∧SrtC L s.ended):SrtC L (lvS hand t s a an x).wait∧SrtC L (lvS hand t s a an x).ended:=by
 have hr:∀(s:Tn) z (n:Nat),(rchS s z n).wait=s.wait∧(rchS s z n).ended=s.ended:=rchS_wait
 unfold lvS
 split
 ·exact ⟨h.1.add (ht _ _),h.2⟩
 split
 ·split
  ·rw [(hr _ _ _).1,(hr _ _ _).2];exact h
  ·exact h
 split
 ·split
  ·rw [(hr _ _ _).1,(hr _ _ _).2];exact h
  ·exact h
 split
 ·rw [(hr _ _ _).1,(hr _ _ _).2];exact h
 split
 ·rw [(hr _ _ _).1,(hr _ _ _).2];exact h
 split
 ·rw [(hr _ _ _).1,(hr _ _ _).2,(hr _ _ _).1,(hr _ _ _).2];exact h
 split
 ·exact ⟨h.1,h.2.add (ht _ _)⟩
 ·exact h
theorem goF_srt {L:List Evt} {code:List In} {hand:Nmb} {t:Thr} (ht:∀a an,Tru L (threadS hand t a an)):∀(m:Nat) (s:Tn),(SrtC L s.wait∧SrtC L s.ended)→SrtC L (goF code hand t m s).wait∧SrtC L (goF code hand t m s).ended:=by
 intro m
 induction m with
 | zero=>intro s h;exact h
 | succ m ih =>
  intro s h
  unfold goF
  split
  ·exact h
  split
  ·exact h
  split
  ·exact h
  ·exact ih _ (lv_srt ht _ _ _ _ h)
theorem goOn_srt {L:List Evt} {code:List In} {hand:Nmb} {t:Thr} (ht:∀a an,Tru L (threadS hand t a an)) (c:Crw×Crw) (h:SrtC L c.1∧SrtC L c.2):SrtC L (goOnS code hand c t).1∧SrtC L (goOnS code hand c t).2:=by
 unfold goOnS
 split
 ·exact h
 split
 ·exact goF_srt ht _ _ (by rw [(rchS_wait _ _ _).1,(rchS_wait _ _ _).2];exact h)
 ·exact h
theorem fold_srt {L:List Evt} {code:List In} {hand:Nmb}:∀(ts:List Thr) (c:Crw×Crw),(∀t∈ts,∀a an,Tru L (threadS hand t a an))→(SrtC L c.1∧SrtC L c.2)→SrtC L (ts.foldl (goOnS code hand) c).1∧SrtC L (ts.foldl (goOnS code hand) c).2:=by
 intro ts
 induction ts with
 | nil=>intro c _ h;exact h
 | cons t r ih =>
  intro c ht h
  exact ih _ (fun u hu=>ht u (List.mem_cons_of_mem _ hu)) (goOn_srt (ht t List.mem_cons_self) c h)
theorem step_srt {L:List Evt} {code:List In} {i:Nat} {e:Evt} (he:L[i]? = some e) {ws:List Thr} {bs:List Nat} {live found:Int} (hw:∀t∈ws,Tru L t):SrtC L (stepS code ⟨i,e⟩ ws bs live found).1∧SrtC L (stepS code ⟨i,e⟩ ws bs live found).2:=by
 unfold stepS
 refine fold_srt _ _ ?_ (fold_srt _ _ (fun t ht a an=>thread_tru he (hw t ht) a an) ⟨⟨List.Pairwise.nil,by simp⟩,⟨List.Pairwise.nil,by simp⟩⟩)
 intro t ht a an
 obtain ⟨b,_,rfl⟩:=List.mem_map.1 ht
 exact thread_tru he (new_tru he _) a an
def Wt (code:List In) (bs:List Nat) (L:List Evt):Nat→Thr→Prop
 | 0,_=>False
 | i+1,u=>∃e t,L[i]? = some e∧(Wt code bs L i t∨∃b∈bs,t=newT (b:Int) ⟨i,e⟩)∧GoW code ⟨i,e⟩ t u
def Et (code:List In) (bs:List Nat) (L:List Evt) (i:Nat) (u:Thr):Prop:=∃e t,L[i]? = some e∧(Wt code bs L i t∨∃b∈bs,t=newT (b:Int) ⟨i,e⟩)∧GoE code ⟨i,e⟩ t u
theorem rc_in {code:List In} (hI:Inb code) {hand:Nmb} {t:Thr} (ht:AtTk code t) {a:Int} {an:Nat} (h:RcT code hand t a an):0≤a∧a<code.length∧an<16:=by
 induction h with
 | zero=>exact ⟨by have:=ht.1;omega,ht.2,by omega⟩
 | next h1 h2 h3 ih =>
  rename_i a an x b bn
  have e:((a.toNat:Nat):Int)=a:=by omega
  have:=nx_in (hand:=hand) (t:=t) hI h2 ih.2.2
  rw [e] at this
  exact this _ h3
theorem goW_at {code:List In} (hI:Inb code) {hand:Nmb} {t u:Thr} (ht:AtTk code t) (h:GoW code hand t u):AtTk code u:=by
 obtain ⟨x,_,_,a,an,y,hr,hy,ho,rfl⟩:=h
 have h1:=rc_in hI ht hr
 have h2:=(hI _ y hy).1 (Or.inl ho)
 exact ⟨h1.1,by show a+1<_;omega⟩
theorem new_at {code:List In} {b:Nat} {hand:Nmb} (h:b+1<code.length):AtTk code (newT (b:Int) hand):=⟨by show (0:Int)≤(b:Int);omega,by show (b:Int)+1<_;omega⟩
theorem wt_at {code:List In} (hI:Inb code) {bs:List Nat} (hb:∀b∈bs,b+1<code.length) {L:List Evt}:∀(i:Nat) (u:Thr),Wt code bs L i u→AtTk code u∧Tru L u:=by
 intro i
 induction i with
 | zero=>intro u h;exact h.elim
 | succ i ih =>
  rintro u ⟨e,t,he,ht,hg⟩
  have h1:AtTk code t∧Tru L t:=by
   rcases ht with ht|⟨b,hb2,rfl⟩
   ·exact ih t ht
   ·exact ⟨new_at (hb b hb2),new_tru he _⟩
  refine ⟨goW_at hI h1.1 hg,?_⟩
  obtain ⟨x,_,_,a,an,y,hr,hy,ho,rfl⟩:=hg
  exact thread_tru he h1.2 _ _
theorem feed_ok {sc:List Int} {code:List In} {bs:List Nat} {live found:Int} {r:Rst} {e:Evt} (h:(feedS sc code bs live found r e).2.2=0) :
  (stepS code ⟨r.count,e⟩ r.ws bs live found).1.over=false∧(stepS code ⟨r.count,e⟩ r.ws bs live found).2.over=false∧(feedS sc code bs live found r e).1.ws=(stepS code ⟨r.count,e⟩ r.ws bs live found).1.l∧(feedS sc code bs live found r e).1.count=r.count+1∧(feedS sc code bs live found r e).2.1=(stepS code ⟨r.count,e⟩ r.ws bs live found).2.l.map (fun t=>matchT t r.count):=by
 unfold feedS at h ⊢
 split at h
 ·simp at h
 split at h
 ·simp at h
 split at h
 ·simp at h
 ·rename_i h1 h2 h3
  rw [if_neg h1,if_neg h2,if_neg h3]
  rw [Bool.or_eq_true] at h3
  exact ⟨notT (fun e=>h3 (Or.inl e)),notT (fun e=>h3 (Or.inr e)),rfl,rfl,rfl⟩
theorem run_mean {sc:List Int} {code:List In} {bs:List Nat} {live found:Int} {L:List Evt} (hI:Inb code) (hb:∀b∈bs,b+1<code.length)
  (hok:∀i e,L[i]? = some e→(feedS sc code bs live found (runS sc code bs live found ⟨[],0,0,false⟩ (L.take i)) e).2.2=0) :
  ∀i,i≤L.length→(runS sc code bs live found ⟨[],0,0,false⟩ (L.take i)).count=i∧Srt (runS sc code bs live found ⟨[],0,0,false⟩ (L.take i)).ws∧∀u,u∈(runS sc code bs live found ⟨[],0,0,false⟩ (L.take i)).ws↔Wt code bs L i u:=by
 intro i
 induction i with
 | zero=>intro _;exact ⟨rfl,List.Pairwise.nil,fun u=>by simp [runS,Wt]⟩
 | succ i ih =>
  intro hi
  obtain ⟨c,s,m⟩:=ih (by omega)
  obtain ⟨e,he⟩:∃e,L[i]? = some e:=⟨L[i],by simp [show i<L.length by omega]⟩
  have hr:runS sc code bs live found ⟨[],0,0,false⟩ (L.take (i+1))=(feedS sc code bs live found (runS sc code bs live found ⟨[],0,0,false⟩ (L.take i)) e).1:=by
   rw [List.take_add_one,he];unfold runS;rw [List.foldl_append];rfl
  obtain ⟨o1,o2,f1,f2,f3⟩:=feed_ok (hok i e he)
  rw [c] at o1 o2 f1
  have hat:=fun t ht=>wt_at hI hb (L:=L) i t ((m t).1 ht)
  obtain ⟨g1,_⟩:=step_iff hI (fun t ht=>(hat t ht).1) hb o1 o2
  obtain ⟨s1,_⟩:=step_srt (code:=code) (bs:=bs) (live:=live) (found:=found) he (fun t ht=>(hat t ht).2)
  rw [hr]
  refine ⟨by rw [f2,c],by rw [f1];exact s1.1,fun u => ?_⟩
  rw [f1,g1]
  constructor
  ·rintro ⟨t,ht,hg⟩
   refine ⟨e,t,he,?_,hg⟩
   rcases ht with ht|ht
   ·exact Or.inl ((m t).1 ht)
   ·exact Or.inr ht
  ·rintro ⟨e',t,he',ht,hg⟩
   rw [he] at he'
   cases he'
   refine ⟨t,?_,hg⟩
   rcases ht with ht|ht
   ·exact Or.inl ((m t).2 ht)
   ·exact Or.inr ht
theorem out_mean {sc:List Int} {code:List In} {bs:List Nat} {live found:Int} {L:List Evt} (hI:Inb code) (hb:∀b∈bs,b+1<code.length)
  (hok:∀i e,L[i]? = some e→(feedS sc code bs live found (runS sc code bs live found ⟨[],0,0,false⟩ (L.take i)) e).2.2=0) (i:Nat) (e:Evt) (he:L[i]? = some e) :
  ∃El:List Thr,(feedS sc code bs live found (runS sc code bs live found ⟨[],0,0,false⟩ (L.take i)) e).2.1=El.map (fun t=>matchT t i)∧Srt El∧∀u,u∈El↔Et code bs L i u:=by
 obtain ⟨c,s,m⟩:=run_mean hI hb hok i (Nat.le_of_lt (List.getElem?_eq_some_iff.1 he).1)
 obtain ⟨o1,o2,f1,f2,f3⟩:=feed_ok (hok i e he)
 rw [c] at o1 o2 f3
 have hat:=fun t ht=>wt_at hI hb (L:=L) i t ((m t).1 ht)
 obtain ⟨_,g2⟩:=step_iff hI (fun t ht=>(hat t ht).1) hb o1 o2
 obtain ⟨_,s2⟩:=step_srt (code:=code) (bs:=bs) (live:=live) (found:=found) he (fun t ht=>(hat t ht).2)
 refine ⟨_,f3,s2.1,fun u => ?_⟩
 rw [g2]
 constructor
 ·rintro ⟨t,ht,hg⟩
  refine ⟨e,t,he,?_,hg⟩
  rcases ht with ht|ht
  ·exact Or.inl ((m t).1 ht)
  ·exact Or.inr ht
 ·rintro ⟨e',t,he',ht,hg⟩
  rw [he] at he'
  cases he'
  refine ⟨t,?_,hg⟩
  rcases ht with ht|ht
  ·exact Or.inl ((m t).2 ht)
  ·exact Or.inr ht
theorem GoesE.last {sc:List Int}:∀ {L:List Evt} {now:Int} (i:Nat) (e:Evt),GoesE sc now L→L[i]? = some e→goodE sc e=true∧(L.take i).foldl (fun _ x=>x.at') now≤e.at'∧(e.kind=0∨e.kind=1∨e.kind=2):=by
 intro L
 induction L with
 | nil=>intro now i e _ h;simp at h
 | cons a r ih =>
  intro now i e h hi
  obtain ⟨h1,h2,h3,h4⟩:=h
  cases i with
  | zero=>simp at hi;subst hi;exact ⟨h2,h3,h1⟩
  | succ i=>exact ih (now:=a.at') i e h4 (by simpa using hi)
deriving instance DecidableEq for Tm
deriving instance DecidableEq for Tst
def nxP (tv:Tst→Bool) (x:In) (a:Int):List Int :=
 if x.op=2 then (if tv x.test=true then [a+1] else []) else if x.op=4 then [x.a] else if x.op=5 then [x.a,x.b] else []
inductive Cl (code:List In) (tv:Tst→Bool) (p:Int):Int→Prop
 | zero:Cl code tv p (p+1)
 | next {a:Int} {x:In} {b:Int}:Cl code tv p a→code[a.toNat]? = some x→b∈nxP tv x a→Cl code tv p b
def pickK (c n:Int):Int:=(if c<0 then -(c+1) else c) % n
theorem pickK_lt {c n:Int} (hn:0<n):0≤pickK c n∧pickK c n<n:=⟨Int.emod_nonneg _ (by omega),Int.emod_lt_of_pos _ hn⟩
theorem pickK_any (c n:Int) (w:World) (hc:In64 c) (hn:0<n) (hn2:n≤1000) :
  Calls Tryz.prog 6 #[.int .i64 c,.int .i64 n] w fun e w'=>e=.returned (.int .i64 (pickK c n))∧w'=w:=by
 obtain ⟨h1,h2⟩:=hc
 by_cases hneg:c<0
 ·have e1:(-(c+1)).tmod n=pickK c n:=by unfold pickK;rw [if_pos hneg,Int.tmod_eq_emod_of_nonneg (by omega)]
  have hn0:¬n=0:=by omega
  generalize pickK c n=p at *
  go_enter Tryz.func6,Tryz.ntmps6
  go_wp2
  go_ret
  exact ⟨by first|rfl|(rw [←e1];rfl),rfl⟩
 ·have e1:c.tmod n=pickK c n:=by unfold pickK;rw [if_neg hneg,Int.tmod_eq_emod_of_nonneg (by omega)]
  have hn0:¬n=0:=by omega
  generalize pickK c n=p at *
  go_enter Tryz.func6,Tryz.ntmps6
  go_wp2
  go_ret
  exact ⟨by first|rfl|(rw [←e1];rfl),rfl⟩
def evC5 (e:Evt):List Value:=[.int .i64 e.at',.int .i64 e.kind,.int .i64 e.x,.int .i64 e.y,.int .i64 e.z]
def evsR (l:List Evt):List Value:=(l.map evC5).flatten
theorem evsR_one (l:List Evt) (e:Evt):evsR (l++[e])=evsR l++evC5 e:=by simp [evsR]
theorem evC5_one (e:Evt):∀u∈evC5 e,u.oneCell'=true:=by
 intro u hu
 simp only [evC5,List.mem_cons,List.not_mem_nil,or_false] at hu
 rcases hu with h|h|h|h|h <;> subst h <;> rfl
theorem Tryz.infoEv2:(Tryz.prog.info? 32).map (fun i=>(i.zero,i.size,i.bytes))=some (some (.agg #[.int .i64 0,.int .i64 0,.int .i64 0,.int .i64 0,.int .i64 0]),5,40):=by kernel_rfl
theorem Tryz.unEvs:Tryz.prog.underlying 23=some (.slice 32):=by kernel_rfl
def evAt (now n:Int):Evt:=⟨now+pickK (n.tdiv 3) 5,pickK n 3,if 1125899906842624<n∨n < -1125899906842624 then n else pickK (n.tdiv 15) 10,0,0⟩
def strTo (ns:List Int):Nat→List Evt×Int
 | 0=>([],0)
 | i+1=>match ns[i]? with
  | none=>strTo ns i
  | some n=>((strTo ns i).1++[evAt (strTo ns i).2 n],(strTo ns i).2+pickK (n.tdiv 3) 5)
theorem strTo_succ {ns:List Int} {i:Nat} {n:Int} (h:ns[i]? = some n):strTo ns (i+1)=((strTo ns i).1++[evAt (strTo ns i).2 n],(strTo ns i).2+pickK (n.tdiv 3) 5):=by
 simp [strTo,h]
theorem strTo_len (ns:List Int):∀i,i≤ns.length→(strTo ns i).1.length=i:=by
 intro i
 induction i with
 | zero=>intro _;rfl
 | succ i ih =>
  intro hi
  rw [strTo_succ (n:=ns[i]'(by omega)) (by simp)]
  simp [ih (by omega)]
theorem strTo_now (ns:List Int):∀i,0≤(strTo ns i).2∧(strTo ns i).2≤4*i:=by
 intro i
 induction i with
 | zero=>simp [strTo]
 | succ i ih =>
  unfold strTo
  split
  ·omega
  ·rename_i n _
   have:=pickK_lt (c:=n.tdiv 3) (n:=5) (by omega)
   simp only
   omega
theorem tdiv_in {n:Int} (h:In64 n) {k:Int} (hk:0<k):In64 (n.tdiv k):=by
 obtain ⟨h1,h2⟩:=h
 have h3:n.tdiv k≤n.natAbs ∧ -(n.natAbs:Int)≤n.tdiv k:=by
  have:=Int.natAbs_tdiv_le_natAbs n k
  omega
 by_cases hn:0≤n
 ·have:=Int.tdiv_nonneg hn (Int.le_of_lt hk)
  unfold In64
  omega
 ·have:=Int.tdiv_nonneg (a := -n) (b:=k) (by omega) (by omega)
  rw [Int.neg_tdiv] at this
  unfold In64
  omega
theorem wrap64_eq {n:Int} (h:In64 n):wrap64 n=n:=by
 obtain ⟨h1,h2⟩:=h
 unfold wrap64;omega
def NumsP (w:World) (p:Option Addr) (ns:List Int):Prop:=¬ns=[]→∃g o,p=some ⟨g,o,none⟩∧g<w.heap.size∧∀(i:Nat) (n:Int),ns[i]? = some n→w.cell? ⟨g,o+i,none⟩=some (.int .i64 n)
theorem NumsP.nw {w w':World} {p:Option Addr} {ns:List Int} (h:NumsP w p ns) (k:Nw w w'):NumsP w' p ns:=by
 intro hne
 obtain ⟨g,o,e,hl,hc⟩:=h hne
 exact ⟨g,o,e,Nat.lt_of_lt_of_le hl k.size,fun i n hn=>(k.cell (p:=⟨g,o+i,none⟩) hl (fun h=>h)).trans (hc i n hn)⟩
structure Eb (W0 wr:World) (v:Value) (l:List Evt):Prop where
 own:wr.ownsRow W0.heap.size 32 5 v l.length (evsR l)
 nw:Nw W0 wr
theorem Eb.next {W0 wr w':World} {v:Value} {l:List Evt} (h:Eb W0 wr v l) (k:Nw wr w'):Eb W0 w' v l:=⟨owns_kp h.own k (fun _ _ h=>h),h.nw.trans k⟩
theorem Eb.more {W0 wr w':World} {v v':Value} {l:List Evt} {x:Evt} (h:Eb W0 wr v l) (hg:wr.grownBy w' v.ownBlock) (ho:w'.ownsRow W0.heap.size 32 5 v' (l.length+1) (evsR l++evC5 x)):Eb W0 w' v' (l++[x]):=by
 refine ⟨?_,h.nw.grown hg (fun b hb=>Or.inl (h.own.lt b hb).1)⟩
 have e1:(l++[x]).length=l.length+1:=by simp
 rw [e1,evsR_one];exact ho
theorem stream_any (p:Option Addr) (cap most:Nat) (ns:List Int) (w:World) (hp:NumsP w p ns) (h64:∀n∈ns,In64 n) (hl:ns.length≤maxLen) (hm:most≤1000) :
  Calls Tryz.prog 5 #[.slice p ns.length cap,.int .i64 most] w fun e w'=>∃v,e=.returned v∧Eb w w' v (strTo ns (min ns.length most)).1:=by
 unfold maxLen at hl
 obtain ⟨i0,hi0,hz0,hz1,hz2⟩:=info_parts Tryz.infoEv2
 have HPK:Hid (∀(c n:Int) (W:World),In64 c→0<n→n≤1000→Calls Tryz.prog 6 #[.int .i64 c,.int .i64 n] W fun e w'=>e=.returned (.int .i64 (pickK c n))∧w'=W):=pickK_any
 have HP:Hid (NumsP w p ns):=hp
 clear hp
 go_enter Tryz.func5,Tryz.ntmps5
 go_wp2
 go_loopg [5,6,7] (min ns.length most) (fun m v5 v6 v7 wr=>∃i:Nat,v6=.int .i64 (strTo ns i).2∧v7=.int .i64 i∧m=min ns.length most - i∧i≤min ns.length most∧Eb w wr v5 (strTo ns i).1)
 case atStart=>exact ⟨0,rfl,rfl,rfl,by omega,⟨World.ownsRow_nil _ _ _ _,Kp.refl _ _⟩⟩
 case round =>
  obtain ⟨i,rfl,rfl,hmm,hil,hB⟩:=hrel
  have HM:Hid (_=min ns.length most - i):=hmm
  have HB:Hid (Eb w wr u5 (strTo ns i).1):=hB
  clear hmm
  by_cases hi:i<ns.length∧i<most
  ·obtain ⟨n,hn⟩:∃n,ns[i]? = some n:=⟨ns[i]'hi.1,by simp [hi.1]⟩
   have hne:¬ns=[]:=by intro e;rw [e] at hn;simp at hn
   obtain ⟨g,o,rfl,hgl,hc⟩:=(HP.out.nw hB.nw) hne
   have c0:=hc i n hn
   have hin:In64 n:=h64 n (List.mem_of_getElem? hn)
   have h15:In64 (n.tdiv 15):=tdiv_in hin (by omega)
   have h3:In64 (n.tdiv 3):=tdiv_in hin (by omega)
   have HST:Hid (strTo ns (i+1)=((strTo ns i).1++[evAt (strTo ns i).2 n],(strTo ns i).2+pickK (n.tdiv 3) 5)):=strTo_succ hn
   have hnow:=strTo_now ns i
   have hlen:=strTo_len ns i (by omega)
   have hp5:=pickK_lt (c:=n.tdiv 3) (n:=5) (by omega)
   have hi1:(i:Int)<ns.length:=by omega
   have hi2:(i:Int)<most:=by omega
   clear hc hB hne hn
   have HP15:Hid (∀W,Calls Tryz.prog 6 #[.int .i64 (wrap64 (n.tdiv 15)),.int .i64 10] W fun e w'=>e=.returned (.int .i64 (pickK (n.tdiv 15) 10))∧w'=W):=fun W=>by
    rw [wrap64_eq h15];exact HPK.out _ _ W h15 (by omega) (by omega)
   have HP3:Hid (∀W,Calls Tryz.prog 6 #[.int .i64 (wrap64 (n.tdiv 3)),.int .i64 5] W fun e w'=>e=.returned (.int .i64 (pickK (n.tdiv 3) 5))∧w'=W):=fun W=>by
    rw [wrap64_eq h3];exact HPK.out _ _ W h3 (by omega) (by omega)
   have HP3n:Hid (∀W,Calls Tryz.prog 6 #[.int .i64 (n.tdiv 3),.int .i64 5] W fun e w'=>e=.returned (.int .i64 (pickK (n.tdiv 3) 5))∧w'=W):=fun W=>HPK.out _ _ W h3 (by omega) (by omega)
   have HPN:Hid (∀W,Calls Tryz.prog 6 #[.int .i64 n,.int .i64 3] W fun e w'=>e=.returned (.int .i64 (pickK n 3))∧w'=W):=fun W=>HPK.out _ _ W hin (by omega) (by omega)
   clear h15 h3
   go_wp2_with fail
   refine (HP15.out _).mono ?_
   rintro e w1 ⟨rfl,rfl⟩
   by_cases hb:1125899906842624<n
   ·have hb1:decide (1125899906842624<n)=true:=by simpa using hb
    have HX:Hid (evAt (strTo ns i).2 n=⟨(strTo ns i).2+pickK (n.tdiv 3) 5,pickK n 3,n,0,0⟩):=by show _=_;unfold evAt;rw [if_pos (Or.inl hb)]
    go_wp2_with fail
    refine (HP3.out _).mono ?_
    rintro e w2 ⟨rfl,rfl⟩
    go_wp2_with fail
    refine (HPN.out _).mono ?_
    rintro e w3 ⟨rfl,rfl⟩
    go_wp2_with (at_builtin;refine wpList_append_lies _ rfl _ _ 23 rfl w.heap.size 32 i0 (.agg #[.int .i64 0,.int .i64 0,.int .i64 0,.int .i64 0,.int .i64 0]) 5 40 Tryz.unEvs hi0 hz0 hz1 hz2 rfl (by decide) _ _ _ rfl (HB.out.own.alloc _) ⟨w3.heap.size,0,none⟩ 1 1 (evC5 ⟨(strTo ns i).2+pickK (n.tdiv 3) 5,pickK n 3,n,0,0⟩) rfl rfl ?c1 (evC5_one _) (by decide) ?c3 ?c4 ?c5 _ rfl ?_)
    case c1=>exact news_one _ (by simp) _ _
    case c3=>unfold maxLen;omega
    case c4=>omega
    case c5=>have:=HB.out.nw.size;simp;omega
    intro g3 cap3 w4 hown3 hgrow3 hat3 hlt3
    have HB3:Hid (Eb w w4 (.slice (some ⟨g3,0,none⟩) (i+1) cap3) ((strTo ns i).1++[⟨(strTo ns i).2+pickK (n.tdiv 3) 5,pickK n 3,n,0,0⟩])):=(HB.out.next ((Kp.refl _ _).alloc _)).more hgrow3 (by rw [hlen];exact hown3)
    clear hown3 hgrow3 hat3
    go_wp2
    go_roundg (min ns.length most - (i+1))
    case measure=>rw [HM.out];omega
    case rel=>exact ⟨i+1,by rw [HST.out],by simp,rfl,by omega,by rw [HST.out];show Eb w w4 _ ((strTo ns i).1++[evAt (strTo ns i).2 n]);rw [HX.out];exact HB3.out⟩
   ·by_cases hb2:n < -1125899906842624
    ·have hb1:decide (1125899906842624<n)=false:=by simpa using hb
     have hb3:decide (n < -1125899906842624)=true:=by simpa using hb2
     have HX:Hid (evAt (strTo ns i).2 n=⟨(strTo ns i).2+pickK (n.tdiv 3) 5,pickK n 3,n,0,0⟩):=by show _=_;unfold evAt;rw [if_pos (Or.inr hb2)]
     go_wp2_with fail
     refine (HP3.out _).mono ?_
     rintro e w2 ⟨rfl,rfl⟩
     go_wp2_with fail
     refine (HPN.out _).mono ?_
     rintro e w3 ⟨rfl,rfl⟩
     go_wp2_with (at_builtin;refine wpList_append_lies _ rfl _ _ 23 rfl w.heap.size 32 i0 (.agg #[.int .i64 0,.int .i64 0,.int .i64 0,.int .i64 0,.int .i64 0]) 5 40 Tryz.unEvs hi0 hz0 hz1 hz2 rfl (by decide) _ _ _ rfl (HB.out.own.alloc _) ⟨w3.heap.size,0,none⟩ 1 1 (evC5 ⟨(strTo ns i).2+pickK (n.tdiv 3) 5,pickK n 3,n,0,0⟩) rfl rfl ?c1 (evC5_one _) (by decide) ?c3 ?c4 ?c5 _ rfl ?_)
     case c1=>exact news_one _ (by simp) _ _
     case c3=>unfold maxLen;omega
     case c4=>omega
     case c5=>have:=HB.out.nw.size;simp;omega
     intro g3 cap3 w4 hown3 hgrow3 hat3 hlt3
     have HB3:Hid (Eb w w4 (.slice (some ⟨g3,0,none⟩) (i+1) cap3) ((strTo ns i).1++[⟨(strTo ns i).2+pickK (n.tdiv 3) 5,pickK n 3,n,0,0⟩])):=(HB.out.next ((Kp.refl _ _).alloc _)).more hgrow3 (by rw [hlen];exact hown3)
     clear hown3 hgrow3 hat3
     go_wp2
     go_roundg (min ns.length most - (i+1))
     case measure=>rw [HM.out];omega
     case rel=>exact ⟨i+1,by rw [HST.out],by simp,rfl,by omega,by rw [HST.out];show Eb w w4 _ ((strTo ns i).1++[evAt (strTo ns i).2 n]);rw [HX.out];exact HB3.out⟩
    ·have hb1:decide (1125899906842624<n)=false:=by simpa using hb
     have hb3:decide (n < -1125899906842624)=false:=by simpa using hb2
     have HX:Hid (evAt (strTo ns i).2 n=⟨(strTo ns i).2+pickK (n.tdiv 3) 5,pickK n 3,pickK (n.tdiv 15) 10,0,0⟩):=by show _=_;unfold evAt;rw [if_neg (by omega)]
     go_wp2_with fail
     refine (HP3n.out _).mono ?_
     rintro e w2 ⟨rfl,rfl⟩
     go_wp2_with fail
     refine (HPN.out _).mono ?_
     rintro e w3 ⟨rfl,rfl⟩
     go_wp2_with (at_builtin;refine wpList_append_lies _ rfl _ _ 23 rfl w.heap.size 32 i0 (.agg #[.int .i64 0,.int .i64 0,.int .i64 0,.int .i64 0,.int .i64 0]) 5 40 Tryz.unEvs hi0 hz0 hz1 hz2 rfl (by decide) _ _ _ rfl (HB.out.own.alloc _) ⟨w3.heap.size,0,none⟩ 1 1 (evC5 ⟨(strTo ns i).2+pickK (n.tdiv 3) 5,pickK n 3,pickK (n.tdiv 15) 10,0,0⟩) rfl rfl ?c1 (evC5_one _) (by decide) ?c3 ?c4 ?c5 _ rfl ?_)
     case c1=>exact news_one _ (by simp) _ _
     case c3=>unfold maxLen;omega
     case c4=>omega
     case c5=>have:=HB.out.nw.size;simp;omega
     intro g3 cap3 w4 hown3 hgrow3 hat3 hlt3
     have HB3:Hid (Eb w w4 (.slice (some ⟨g3,0,none⟩) (i+1) cap3) ((strTo ns i).1++[⟨(strTo ns i).2+pickK (n.tdiv 3) 5,pickK n 3,pickK (n.tdiv 15) 10,0,0⟩])):=(HB.out.next ((Kp.refl _ _).alloc _)).more hgrow3 (by rw [hlen];exact hown3)
     clear hown3 hgrow3 hat3
     go_wp2
     go_roundg (min ns.length most - (i+1))
     case measure=>rw [HM.out];omega
     case rel=>exact ⟨i+1,by rw [HST.out],by simp,rfl,by omega,by rw [HST.out];show Eb w w4 _ ((strTo ns i).1++[evAt (strTo ns i).2 n]);rw [HX.out];exact HB3.out⟩
  ·have ei:i=min ns.length most:=by omega
   by_cases hq:i<ns.length
   ·have hq1:(i:Int)<ns.length:=by omega
    have hq2:¬(i:Int)<most:=by omega
    go_wp2
    go_ret
    exact ⟨_,rfl,by rw [←ei];exact HB.out⟩
   ·have hq1:¬(i:Int)<ns.length:=by omega
    go_wp2
    go_ret
    exact ⟨_,rfl,by rw [←ei];exact HB.out⟩
theorem great_any (w:World):Calls Tryz.prog 15 #[] w fun e w'=>e=.returned (.agg #[.int .i64 200,.int .i64 200])∧Nw w w':=by
 have HL:∀W:World,W.cell? ⟨w.heap.size,0,none⟩=some (.int .i64 200)→W.cell? ⟨w.heap.size,1,none⟩=some (.int .i64 200)→(loadVar 46 ⟨w.heap.size,0,none⟩).run Tryz.prog W=.ok (.agg #[.int .i64 200,.int .i64 200]) W:=by
  intro W h0 h1
  obtain ⟨dd,hu,hd⟩:=Option.map_eq_some_iff.1 (show (Tryz.prog.underlying 46).map TypeDesc.isRow=some true by kernel_rfl)
  refine run_loadVar_mid W w.heap.size 0 46 [.int .i64 200,.int .i64 200] dd ?_ hu hd (by kernel_rfl)
  intro k v hv
  rw [Nat.zero_add]
  match k,hv with
  | 0,hv=>simp at hv;rw [h0,hv]
  | 1,hv=>simp at hv;rw [h1,hv]
 have HLL:Hid (∀W:World,W.cell? ⟨w.heap.size,0,none⟩=some (.int .i64 200)→W.cell? ⟨w.heap.size,1,none⟩=some (.int .i64 200)→(loadVar 46 ⟨w.heap.size,0,none⟩).run Tryz.prog W=.ok (.agg #[.int .i64 200,.int .i64 200]) W):=HL
 clear HL
 go_enter Tryz.func15,Tryz.ntmps15
 go_wp2
 refine bodyPost_ret (results_cX Tryz.results15 _ _ _ ⟨w.heap.size,0,none⟩ rfl _ (HLL.out _ ?_ ?_)) rfl ?_
 ·simp [go_sem,World.cell?_alloc_at]
 ·simp [go_sem,World.cell?_alloc_at]
 ·exact ⟨rfl,(Kp.refl _ w).alloc _⟩
end Go.Proofs.YtcboiapggnmpfaaGreatDoor
