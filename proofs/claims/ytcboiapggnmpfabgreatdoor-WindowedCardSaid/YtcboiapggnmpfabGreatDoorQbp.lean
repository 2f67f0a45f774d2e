import Derived.Test.YtcboiapggnmpfabGreatDoorQbo
import Derived.Test.YtcboiapggnmpfabGreatDoorQav
import Derived.Deep.QuietTactic
import Derived.BigQuiet
namespace Go.Proofs.YtcboiapggnmpfabGreatDoor
set_option maxRecDepth 100000
set_option maxHeartbeats 4000000
set_option linter.unusedSimpArgs false
set_option linter.unusedVariables false
open Go.RowKit
theorem ahead_iff (t o:Thr):aheadB t o=true↔(t.first<o.first∨(t.first=o.first∧(t.h0.n<o.h0.n∨(t.h0.n=o.h0.n∧(t.h1.n<o.h1.n∨(t.h1.n=o.h1.n∧(t.h2.n<o.h2.n∨(t.h2.n=o.h2.n∧(t.h3.n<o.h3.n∨(t.h3.n=o.h3.n∧t.at'<o.at')))))))))):=by
 unfold aheadB
 simp only [aheadF,Thr.hd]
 split
 ·split
  ·split
   ·split
    ·split
     ·simp only [decide_eq_true_eq];omega
     ·simp only [decide_eq_true_eq];omega
    ·simp only [decide_eq_true_eq];omega
   ·simp only [decide_eq_true_eq];omega
  ·simp only [decide_eq_true_eq];omega
 ·simp only [decide_eq_true_eq];omega
theorem ahead_trans {a b c:Thr} (h1:aheadB a b=true) (h2:aheadB b c=true):aheadB a c=true:=by
 rw [ahead_iff] at *;omega
theorem ahead_irr {a:Thr}:¬aheadB a a=true:=by
 rw [ahead_iff];omega
theorem ahead_asym {a b:Thr} (h1:aheadB a b=true):¬aheadB b a=true:=fun h2=>ahead_irr (ahead_trans h1 h2)
def Srt (l:List Thr):Prop:=l.Pairwise (fun a b=>aheadB a b=true)
theorem Srt.at {l:List Thr} (h:Srt l) {i j:Nat} {a b:Thr} (hij:i<j) (ha:l[i]? = some a) (hb:l[j]? = some b):aheadB a b=true:=by
 obtain ⟨h1,rfl⟩:=List.getElem?_eq_some_iff.1 ha
 obtain ⟨h2,rfl⟩:=List.getElem?_eq_some_iff.1 hb
 exact (List.pairwise_iff_getElem.1 h) i j h1 h2 hij
theorem Srt.eq:∀ {l l':List Thr},Srt l→Srt l'→(∀u,u∈l↔u∈l')→l=l':=by
 intro l
 induction l with
 | nil =>
  intro l' _ _ h
  cases l' with
  | nil=>rfl
  | cons b r=>exact absurd ((h b).2 List.mem_cons_self) (by simp)
 | cons a r ih =>
  intro l' h1 h2 h
  cases l' with
  | nil=>exact absurd ((h a).1 List.mem_cons_self) (by simp)
  | cons b r' =>
   have p1:=List.pairwise_cons.1 h1
   have p2:=List.pairwise_cons.1 h2
   have hab:a=b:=by
    rcases List.mem_cons.1 ((h a).1 List.mem_cons_self) with e|e
    ·exact e
    ·rcases List.mem_cons.1 ((h b).2 List.mem_cons_self) with e2|e2
     ·exact e2.symm
     ·exact absurd (p1.1 b e2) (ahead_asym (p2.1 a e))
   subst hab
   rw [ih p1.2 p2.2]
   intro u
   constructor
   ·intro hu
    rcases List.mem_cons.1 ((h u).1 (List.mem_cons_of_mem _ hu)) with e|e
    ·subst e;exact absurd (p1.1 _ hu) ahead_irr
    ·exact e
   ·intro hu
    rcases List.mem_cons.1 ((h u).2 (List.mem_cons_of_mem _ hu)) with e|e
    ·subst e;exact absurd (p2.1 _ hu) ahead_irr
    ·exact e
theorem plcFT_spec {l:List Thr} {t:Thr} (hs:Srt l):∀(m lo hi:Nat),lo≤hi→hi≤l.length→hi - lo≤m→(∀i u,i<lo→l[i]? = some u→aheadB u t=true)→(∀i u,hi≤i→l[i]? = some u→¬aheadB u t=true) →
  (∀i u,i<plcFT l t m lo hi→l[i]? = some u→aheadB u t=true)∧(∀i u,plcFT l t m lo hi≤i→l[i]? = some u→¬aheadB u t=true):=by
 intro m
 induction m with
 | zero =>
  intro lo hi h1 h2 h3 ha hb
  unfold plcFT
  exact ⟨ha,fun i u hi2 hu=>hb i u (by omega) hu⟩
 | succ m ih =>
  intro lo hi h1 h2 h3 ha hb
  unfold plcFT
  by_cases hlt:lo<hi
  ·rw [if_pos hlt]
   have hm1:lo+(hi - lo) / 2<hi:=by omega
   obtain ⟨v,hv⟩:∃v,l[lo+(hi - lo) / 2]? = some v:=⟨l[lo+(hi - lo) / 2]'(by omega),by simp⟩
   rw [hv]
   simp only
   split
   ·rename_i hav
    refine ih _ _ (by omega) h2 (by omega) ?_ hb
    intro i u hi2 hu
    by_cases e:i=lo+(hi - lo) / 2
    ·subst e;rw [hv] at hu;cases hu;exact hav
    ·exact ahead_trans (hs.at (by omega) hu hv) hav
   ·rename_i hav
    refine ih _ _ (by omega) (by omega) (by omega) ha ?_
    intro i u hi2 hu hau
    by_cases e:i=lo+(hi - lo) / 2
    ·subst e;rw [hv] at hu;cases hu;exact hav hau
    ·exact hav (ahead_trans (hs.at (by omega) hv hu) hau)
  ·rw [if_neg hlt]
   exact ⟨ha,fun i u hi2 hu=>hb i u (by omega) hu⟩
theorem plcT_spec {l:List Thr} {t:Thr} (hs:Srt l):(∀i u,i<plcT l t→l[i]? = some u→aheadB u t=true)∧(∀i u,plcT l t≤i→l[i]? = some u→¬aheadB u t=true) :=
 plcFT_spec hs _ _ _ (by omega) (by omega) (by omega) (fun i u h=>by omega) (fun i u h hu=>by have:=(List.getElem?_eq_some_iff.1 hu).1;omega)
theorem addC_srt {c:Crw} {t:Thr} (hs:Srt c.l) (hk:∀u∈c.l,u=t∨aheadB u t=true∨aheadB t u=true):Srt (addC c t).l:=by
 obtain ⟨h1,h2⟩:=plcT_spec (t:=t) hs
 unfold addC
 split
 ·exact hs
 split
 ·exact hs
 ·rename_i e1 e2
  show Srt (c.l.take (plcT c.l t)++t::c.l.drop (plcT c.l t))
  have hle:=plcT_le c.l t
  have hA:∀u∈c.l.take (plcT c.l t),aheadB u t=true:=by
   intro u hu
   obtain ⟨i,hi⟩:=List.mem_iff_getElem?.1 hu
   rw [List.getElem?_take] at hi
   split at hi
   ·exact h1 i u (by omega) hi
   ·cases hi
  have hB:∀u∈c.l.drop (plcT c.l t),aheadB t u=true:=by
   intro u hu
   obtain ⟨i,hi⟩:=List.mem_iff_getElem?.1 hu
   rw [List.getElem?_drop] at hi
   have hna:=h2 _ u (by omega) hi
   rcases hk u (List.mem_of_mem_drop hu) with e|e|e
   ·subst e
    exfalso
    by_cases ei:i=0
    ·subst ei;exact e1 (by simpa using hi)
    ·obtain ⟨v,hv⟩:∃v,c.l[plcT c.l u]? = some v:=⟨c.l[plcT c.l u]'(by have:=(List.getElem?_eq_some_iff.1 hi).1;omega),by simp⟩
     exact h2 _ v (by omega) hv (hs.at (by omega) hv hi)
   ·exact absurd e hna
   ·exact e
  refine List.pairwise_append.2 ⟨List.Pairwise.sublist (List.take_sublist _ _) hs,List.pairwise_cons.2 ⟨hB,List.Pairwise.sublist (List.drop_sublist _ _) hs⟩,?_⟩
  intro a ha b hb
  rcases List.mem_cons.1 hb with e|e
  ·subst e;exact hA a ha
  ·exact ahead_trans (hA a ha) (hB b e)
structure Tru (L:List Evt) (t:Thr):Prop where
 f:∃(n:Nat) (e:Evt),t.first=n∧L[n]? = some e∧t.began=e.at'
 h:∀k,t.hd k=nmb0∨∃n:Nat,(t.hd k).n=n∧L[n]? = some (t.hd k).e
theorem nmb_tri {L:List Evt} {a b:Nmb} (ha:a=nmb0∨∃n:Nat,a.n=n∧L[n]? = some a.e) (hb:b=nmb0∨∃n:Nat,b.n=n∧L[n]? = some b.e) (h:a.n=b.n):a=b:=by
 obtain ⟨an,ae⟩:=a
 obtain ⟨bn,be⟩:=b
 simp only [nmb0,Nmb.mk.injEq] at *
 subst h
 rcases ha with ⟨h1,rfl⟩ | ⟨n,h1,h2⟩ <;> rcases hb with ⟨h3,rfl⟩ | ⟨m,h3,h4⟩
 ·exact ⟨rfl,rfl⟩
 ·omega
 ·omega
 ·have:n=m:=by omega
  subst this
  rw [h2] at h4
  cases h4
  exact ⟨rfl,rfl⟩
theorem Tru.tri {L:List Evt} {u t:Thr} (hu:Tru L u) (ht:Tru L t):u=t∨aheadB u t=true∨aheadB t u=true:=by
 by_cases h1:aheadB u t=true
 ·exact Or.inr (Or.inl h1)
 by_cases h2:aheadB t u=true
 ·exact Or.inr (Or.inr h2)
 left
 rw [ahead_iff] at h1 h2
 have e0:u.first=t.first:=by omega
 have e1:u.h0.n=t.h0.n:=by omega
 have e2:u.h1.n=t.h1.n:=by omega
 have e3:u.h2.n=t.h2.n:=by omega
 have e4:u.h3.n=t.h3.n:=by omega
 have e5:u.at'=t.at':=by omega
 have f0:=nmb_tri (hu.h 0) (ht.h 0) e1
 have f1:=nmb_tri (hu.h 1) (ht.h 1) e2
 have f2:=nmb_tri (hu.h 2) (ht.h 2) e3
 have f3:=nmb_tri (hu.h 3) (ht.h 3) e4
 have e6:u.began=t.began:=by
  obtain ⟨n,e,a1,a2,a3⟩:=hu.f
  obtain ⟨m,e',b1,b2,b3⟩:=ht.f
  have:n=m:=by omega
  subst this
  rw [a2] at b2
  cases b2
  rw [a3,b3]
 cases u;cases t
 simp only [Thr.hd] at *
 simp_all
theorem held_tru {L:List Evt} {i:Nat} {e:Evt} (he:L[i]? = some e) {t:Thr} (ht:Tru L t) (p:Int) (an:Nat):heldS ⟨i,e⟩ t p an=nmb0∨∃n:Nat,(heldS ⟨i,e⟩ t p an).n=n∧L[n]? = some (heldS ⟨i,e⟩ t p an).e:=by
 unfold heldS
 split
 ·exact Or.inr ⟨i,rfl,he⟩
 split
 ·exact Or.inl rfl
 ·exact ht.h _
theorem thread_tru {L:List Evt} {i:Nat} {e:Evt} (he:L[i]? = some e) {t:Thr} (ht:Tru L t) (a:Int) (an:Nat):Tru L (threadS ⟨i,e⟩ t a an):=by
 refine ⟨ht.f,?_⟩
 intro k
 match k with
 | 0=>exact held_tru he ht 0 an
 | 1=>exact held_tru he ht 1 an
 | 2=>exact held_tru he ht 2 an
 | (k+3)=>exact held_tru he ht 3 an
theorem new_tru {L:List Evt} {i:Nat} {e:Evt} (he:L[i]? = some e) (a:Int):Tru L (newT a ⟨i,e⟩):=by
 refine ⟨⟨i,e,rfl,he,rfl⟩,?_⟩
 intro k
 left
 match k with
 | 0=>rfl
 | 1=>rfl
 | 2=>rfl
 | (k+3)=>rfl
def SrtC (L:List Evt) (c:Crw):Prop:=Srt c.l∧∀u∈c.l,Tru L u
theorem addC_sub {c:Crw} {t u:Thr} (h:u∈(addC c t).l):u∈c.l∨u=t:=by
 unfold addC at h
 split at h
 ·exact Or.inl h
 ·split at h
  ·exact Or.inl h
  ·rcases List.mem_append.1 h with e|e
   ·exact Or.inl (List.mem_of_mem_take e)
   ·rcases List.mem_cons.1 e with e|e
    ·exact Or.inr e
    ·exact Or.inl (List.mem_of_mem_drop e)
theorem SrtC.add {L:List Evt} {c:Crw} {t:Thr} (h:SrtC L c) (ht:Tru L t):SrtC L (addC c t):=by
 refine ⟨addC_srt h.1 (fun u hu=>(h.2 u hu).tri ht),?_⟩
 intro u hu
 rcases addC_sub hu with h1|h1
 ·exact h.2 u h1
 ·subst h1;exact ht
theorem lv_srt {L:List Evt} {hand:Nmb} {t:Thr} (ht:∀a an,Tru L (threadS hand t a an)) (s:Tn) (a:Int) (an:Nat) (x:In) (h:SrtC L s.wait∧SrtC L s.ended):SrtC L (lvS hand t s a an x).wait∧SrtC L (lvS hand t s a an x).ended:=by
 have hr:∀(s:Tn) z (n:Nat),(rchS s z n).wait=s.wait∧(rchS s z n).ended=s.ended:=rchS_wait
 unfold lvS
 split
 ·exact ⟨h.1.add (ht _ _),h.2⟩
 split
 ·split
  ·rw [(hr _ _ _).1,(hr _ _ _).2];exact h
  ·exact h
 split
 ·split
  ·rw [(hr _ _ _).1,(hr _ _ _).2];exact h
  ·exact h
 split
 ·rw [(hr _ _ _).1,(hr _ _ _).2];exact h
 split
 ·rw [(hr _ _ _).1,(hr _ _ _).2];exact h
 split
 ·rw [(hr _ _ _).1,(hr _ _ _).2,(hr _ _ _).1,(hr _ _ _).2];exact h
 split
 ·exact ⟨h.1,h.2.add (ht _ _)⟩
 ·exact h
theorem goF_srt {L:List Evt} {code:List In} {hand:Nmb} {t:Thr} (ht:∀a an,Tru L (threadS hand t a an)):∀(m:Nat) (s:Tn),(SrtC L s.wait∧SrtC L s.ended)→SrtC L (goF code hand t m s).wait∧SrtC L (goF code hand t m s).ended:=by
 intro m
 induction m with
 | zero=>intro s h;exact h
 | succ m ih =>
  intro s h
  unfold goF
  split
  ·exact h
  split
  ·exact h
  split
  ·exact h
  ·exact ih _ (lv_srt ht _ _ _ _ h)
theorem goOn_srt {L:List Evt} {code:List In} {hand:Nmb} {t:Thr} (ht:∀a an,Tru L (threadS hand t a an)) (c:Crw×Crw) (h:SrtC L c.1∧SrtC L c.2):SrtC L (goOnS code hand c t).1∧SrtC L (goOnS code hand c t).2:=by
 unfold goOnS
 split
 ·exact h
 split
 ·exact goF_srt ht _ _ (by rw [(rchS_wait _ _ _).1,(rchS_wait _ _ _).2];exact h)
 ·exact h
theorem fold_srt {L:List Evt} {code:List In} {hand:Nmb}:∀(ts:List Thr) (c:Crw×Crw),(∀t∈ts,∀a an,Tru L (threadS hand t a an))→(SrtC L c.1∧SrtC L c.2)→SrtC L (ts.foldl (goOnS code hand) c).1∧SrtC L (ts.foldl (goOnS code hand) c).2:=by
 intro ts
 induction ts with
 | nil=>intro c _ h;exact h
 | cons t r ih =>
  intro c ht h
  exact ih _ (fun u hu=>ht u (List.mem_cons_of_mem _ hu)) (goOn_srt (ht t List.mem_cons_self) c h)
theorem step_srt {L:List Evt} {code:List In} {i:Nat} {e:Evt} (he:L[i]? = some e) {ws:List Thr} {bs:List Nat} {live found:Int} (hw:∀t∈ws,Tru L t):SrtC L (stepS code ⟨i,e⟩ ws bs live found).1∧SrtC L (stepS code ⟨i,e⟩ ws bs live found).2:=by
 unfold stepS
 refine fold_srt _ _ ?_ (fold_srt _ _ (fun t ht a an=>thread_tru he (hw t ht) a an) ⟨⟨List.Pairwise.nil,by simp⟩,⟨List.Pairwise.nil,by simp⟩⟩)
 intro t ht a an
 obtain ⟨b,_,rfl⟩:=List.mem_map.1 ht
 exact thread_tru he (new_tru he _) a an
def Wt (code:List In) (bs:List Nat) (L:List Evt):Nat→Thr→Prop
 | 0,_=>False
 | i+1,u=>∃e t,L[i]? = some e∧(Wt code bs L i t∨∃b∈bs,t=newT (b:Int) ⟨i,e⟩)∧GoW code ⟨i,e⟩ t u
def Et (code:List In) (bs:List Nat) (L:List Evt) (i:Nat) (u:Thr):Prop:=∃e t,L[i]? = some e∧(Wt code bs L i t∨∃b∈bs,t=newT (b:Int) ⟨i,e⟩)∧GoE code ⟨i,e⟩ t u
theorem rc_in {code:List In} (hI:Inb code) {hand:Nmb} {t:Thr} (ht:AtTk code t) {a:Int} {an:Nat} (h:RcT code hand t a an):0≤a∧a<code.length∧an<16:=by
 induction h with
 | zero=>exact ⟨by have:=ht.1;omega,ht.2,by omega⟩
 | next h1 h2 h3 ih =>
  rename_i a an x b bn
  have e:((a.toNat:Nat):Int)=a:=by omega
  have:=nx_in (hand:=hand) (t:=t) hI h2 ih.2.2
  rw [e] at this
  exact this _ h3
theorem goW_at {code:List In} (hI:Inb code) {hand:Nmb} {t u:Thr} (ht:AtTk code t) (h:GoW code hand t u):AtTk code u:=by
 obtain ⟨x,_,_,a,an,y,hr,hy,ho,rfl⟩:=h
 have h1:=rc_in hI ht hr
 have h2:=(hI _ y hy).1 (Or.inl ho)
 exact ⟨h1.1,by show a+1<_;omega⟩
theorem new_at {code:List In} {b:Nat} {hand:Nmb} (h:b+1<code.length):AtTk code (newT (b:Int) hand):=⟨by show (0:Int)≤(b:Int);omega,by show (b:Int)+1<_;omega⟩
theorem wt_at {code:List In} (hI:Inb code) {bs:List Nat} (hb:∀b∈bs,b+1<code.length) {L:List Evt}:∀(i:Nat) (u:Thr),Wt code bs L i u→AtTk code u∧Tru L u:=by
 intro i
 induction i with
 | zero=>intro u h;exact h.elim
 | succ i ih =>
  rintro u ⟨e,t,he,ht,hg⟩
  have h1:AtTk code t∧Tru L t:=by
   rcases ht with ht|⟨b,hb2,rfl⟩
   ·exact ih t ht
   ·exact ⟨new_at (hb b hb2),new_tru he _⟩
  refine ⟨goW_at hI h1.1 hg,?_⟩
  obtain ⟨x,_,_,a,an,y,hr,hy,ho,rfl⟩:=hg
  exact thread_tru he h1.2 _ _
theorem feed_ok {sc:List Int} {code:List In} {bs:List Nat} {live found:Int} {r:Rst} {e:Evt} (h:(feedS sc code bs live found r e).2.2=0) :
  (stepS code ⟨r.count,e⟩ r.ws bs live found).1.over=false∧(stepS code ⟨r.count,e⟩ r.ws bs live found).2.over=false∧(feedS sc code bs live found r e).1.ws=(stepS code ⟨r.count,e⟩ r.ws bs live found).1.l∧(feedS sc code bs live found r e).1.count=r.count+1∧(feedS sc code bs live found r e).2.1=(stepS code ⟨r.count,e⟩ r.ws bs live found).2.l.map (fun t=>matchT t r.count):=by
 unfold feedS at h ⊢
 split at h
 ·simp at h
 split at h
 ·simp at h
 split at h
 ·simp at h
 ·rename_i h1 h2 h3
  rw [if_neg h1,if_neg h2,if_neg h3]
  rw [Bool.or_eq_true] at h3
  exact ⟨notT (fun e=>h3 (Or.inl e)),notT (fun e=>h3 (Or.inr e)),rfl,rfl,rfl⟩
theorem run_mean {sc:List Int} {code:List In} {bs:List Nat} {live found:Int} {L:List Evt} (hI:Inb code) (hb:∀b∈bs,b+1<code.length)
  (hok:∀i e,L[i]? = some e→(feedS sc code bs live found (runS sc code bs live found ⟨[],0,0,false⟩ (L.take i)) e).2.2=0) :
  ∀i,i≤L.length→(runS sc code bs live found ⟨[],0,0,false⟩ (L.take i)).count=i∧Srt (runS sc code bs live found ⟨[],0,0,false⟩ (L.take i)).ws∧∀u,u∈(runS sc code bs live found ⟨[],0,0,false⟩ (L.take i)).ws↔Wt code bs L i u:=by
 intro i
 induction i with
 | zero=>intro _;exact ⟨rfl,List.Pairwise.nil,fun u=>by simp [runS,Wt]⟩
 | succ i ih =>
  intro hi
  obtain ⟨c,s,m⟩:=ih (by omega)
  obtain ⟨e,he⟩:∃e,L[i]? = some e:=⟨L[i],by simp [show i<L.length by omega]⟩
  have hr:runS sc code bs live found ⟨[],0,0,false⟩ (L.take (i+1))=(feedS sc code bs live found (runS sc code bs live found ⟨[],0,0,false⟩ (L.take i)) e).1:=by
   rw [List.take_add_one,he];unfold runS;rw [List.foldl_append];rfl
  obtain ⟨o1,o2,f1,f2,f3⟩:=feed_ok (hok i e he)
  rw [c] at o1 o2 f1
  have hat:=fun t ht=>wt_at hI hb (L:=L) i t ((m t).1 ht)
  obtain ⟨g1,_⟩:=step_iff hI (fun t ht=>(hat t ht).1) hb o1 o2
  obtain ⟨s1,_⟩:=step_srt (code:=code) (bs:=bs) (live:=live) (found:=found) he (fun t ht=>(hat t ht).2)
  rw [hr]
  refine ⟨by rw [f2,c],by rw [f1];exact s1.1,fun u => ?_⟩
  rw [f1,g1]
  constructor
  ·rintro ⟨t,ht,hg⟩
   refine ⟨e,t,he,?_,hg⟩
   rcases ht with ht|ht
   ·exact Or.inl ((m t).1 ht)
   ·exact Or.inr ht
  ·rintro ⟨e',t,he',ht,hg⟩
   rw [he] at he'
   cases he'
   refine ⟨t,?_,hg⟩
   rcases ht with ht|ht
   ·exact Or.inl ((m t).2 ht)
   ·exact Or.inr ht
theorem out_mean {sc:List Int} {code:List In} {bs:List Nat} {live found:Int} {L:List Evt} (hI:Inb code) (hb:∀b∈bs,b+1<code.length)
  (hok:∀i e,L[i]? = some e→(feedS sc code bs live found (runS sc code bs live found ⟨[],0,0,false⟩ (L.take i)) e).2.2=0) (i:Nat) (e:Evt) (he:L[i]? = some e) :
  ∃El:List Thr,(feedS sc code bs live found (runS sc code bs live found ⟨[],0,0,false⟩ (L.take i)) e).2.1=El.map (fun t=>matchT t i)∧Srt El∧∀u,u∈El↔Et code bs L i u:=by
 obtain ⟨c,s,m⟩:=run_mean hI hb hok i (Nat.le_of_lt (List.getElem?_eq_some_iff.1 he).1)
 obtain ⟨o1,o2,f1,f2,f3⟩:=feed_ok (hok i e he)
 rw [c] at o1 o2 f3
 have hat:=fun t ht=>wt_at hI hb (L:=L) i t ((m t).1 ht)
 obtain ⟨_,g2⟩:=step_iff hI (fun t ht=>(hat t ht).1) hb o1 o2
 obtain ⟨_,s2⟩:=step_srt (code:=code) (bs:=bs) (live:=live) (found:=found) he (fun t ht=>(hat t ht).2)
 refine ⟨_,f3,s2.1,fun u => ?_⟩
 rw [g2]
 constructor
 ·rintro ⟨t,ht,hg⟩
  refine ⟨e,t,he,?_,hg⟩
  rcases ht with ht|ht
  ·exact Or.inl ((m t).1 ht)
  ·exact Or.inr ht
 ·rintro ⟨e',t,he',ht,hg⟩
  rw [he] at he'
  cases he'
  refine ⟨t,?_,hg⟩
  rcases ht with ht|ht
  ·exact Or.inl ((m t).2 ht)
  ·exact Or.inr ht
theorem et_tru {code:List In} (hI:Inb code) {bs:List Nat} (hb:∀b∈bs,b+1<code.length) {L:List Evt} {i:Nat} {u:Thr} (h:Et code bs L i u):Tru L u:=by
 obtain ⟨e,t,he,ht,hg⟩:=h
 obtain ⟨x,hx,hk,a,an,y,hr,hy,ho,rfl⟩:=hg
 refine thread_tru he ?_ _ _
 rcases ht with ht|⟨b,_,rfl⟩
 ·exact (wt_at hI hb i t ht).2
 ·exact new_tru he _
theorem GoesE.last {sc:List Int}:∀ {L:List Evt} {now:Int} (i:Nat) (e:Evt),GoesE sc now L→L[i]? = some e→goodE sc e=true∧(L.take i).foldl (fun _ x=>x.at') now≤e.at'∧(e.kind=0∨e.kind=1∨e.kind=2):=by
 intro L
 induction L with
 | nil=>intro now i e _ h;simp at h
 | cons a r ih =>
  intro now i e h hi
  obtain ⟨h1,h2,h3,h4⟩:=h
  cases i with
  | zero=>simp at hi;subst hi;exact ⟨h2,h3,h1⟩
  | succ i=>exact ih (now:=a.at') i e h4 (by simpa using hi)
deriving instance DecidableEq for Tm
deriving instance DecidableEq for Tst
def nxP (tv:Tst→Bool) (x:In) (a:Int):List Int :=
 if x.op=2 then (if tv x.test=true then [a+1] else []) else if x.op=4 then [x.a] else if x.op=5 then [x.a,x.b] else []
inductive Cl (code:List In) (tv:Tst→Bool) (p:Int):Int→Prop
 | zero:Cl code tv p (p+1)
 | next {a:Int} {x:In} {b:Int}:Cl code tv p a→code[a.toNat]? = some x→b∈nxP tv x a→Cl code tv p b
theorem addChain_any (R s:Nat) (tv cv:Value) (S:List Nat) (l:List In) (w:World) (h:CwM w R tv cv S l) (hs:s<2 ^ 25) (hS:S.length≤10000) (hN:l.length+S.length≤100000) :
  Calls Tryz.prog 39 #[.pointer (some ⟨R,0,none⟩),.int .i64 s] w fun e w' =>
   e=.returned (.tuple #[])∧∃cv',CwM w' R tv cv' S (l++chainS s S 0 (countS s) l.length)∧Kp (fun b=>R≤b) w w':=by
 have HH:Hid (∀p W,p≤100000→Calls Tryz.prog 71 #[.int .i64 s,.int .i64 (p:Nat)] W fun e w'=>e=.returned (.bool (hasS s p))∧w'=W):=fun p W hp=>hasS_any s p W hs hp
 have H:Hid (CwM w R tv cv S l):=h
 have hcl:countS s≤25:=cntS_le s 25
 have hcnt:=countS_any s w hs
 obtain ⟨tp,tc,rfl⟩:=ownsLenX h.so
 clear h
 generalize hL0:countS s=L0 at *
 go_enter Tryz.func39,Tryz.ntmps39
 go_wp2_with fail
 refine hcnt.mono ?_
 rintro e w0 ⟨rfl,hw0⟩
 have hw0':=hw0.symm
 subst hw0'
 clear hw0 hcnt
 go_wp2
 go_loopg [4,5] S.length (fun m v4 v5 wr=>∃(i:Nat) (left:Int) (cv':Value) (l':List In),v4=.int .i64 left∧v5=.int .i64 i∧m=S.length - i∧i≤S.length∧left≤25 ∧ -(i:Int)≤left∧l'.length≤l.length+i∧CwM wr R (.slice tp S.length tc) cv' S l'∧l'++chainS s (S.drop i) i left l'.length=l++chainS s S 0 L0 l.length∧Kp (fun b=>R≤b) w wr)
 case atStart=>exact ⟨0,L0,cv,l,rfl,rfl,rfl,by omega,by omega,by omega,by omega,H.out,rfl,Kp.refl _ _⟩
 case round =>
  obtain ⟨i,left,cv',l',rfl,rfl,hm,hi,hl1,hl2,hl3,hw,he,hk⟩:=hrel
  have HM:Hid (_=S.length - i):=hm
  have HW:Hid (CwM wr R (.slice tp S.length tc) cv' S l'):=hw
  have HK:Hid (Kp (fun b=>R≤b) w wr):=hk
  have HE:Hid (l'++chainS s (S.drop i) i left l'.length=l++chainS s S 0 L0 l.length):=he
  have c0:=hw.c0
  have hltR:=hw.lt
  clear hm hw hk he
  by_cases hil:i<S.length
  ·obtain ⟨x,hx⟩:∃x,S[i]? = some x:=⟨_,List.getElem?_eq_getElem hil⟩
   have HX:Hid (S[i]? = some x):=hx
   have HDR:Hid (S.drop i=x::S.drop (i+1)):=by
    obtain ⟨h1,h2⟩:=List.getElem?_eq_some_iff.1 hx
    show S.drop i=_
    rw [List.drop_eq_getElem_cons h1,h2]
   clear hx
   obtain ⟨g,c,hvg⟩:=owns_some HW.out.so (by omega)
   simp only [Value.slice.injEq] at hvg
   obtain ⟨rfl,_,rfl⟩:=hvg
   have cx:wr.cell? ⟨g,i,none⟩=some (.int .i64 x):=owns_cell HW.out.so i (intsV_get HX.out)
   have hgR:g<R:=HW.out.sb g rfl
   have hgl:g<wr.heap.size:=by omega
   go_wp2_with fail
   refine (HH.out i _ (by omega)).mono ?_
   rintro e w1 ⟨rfl,hw1⟩
   have hw2:=hw1.symm
   subst hw2
   clear hw1
   by_cases hb:hasS s i=true
   ·have HE2:Hid (l'++((if left - 1>0 then splitI x (l'.length+1) else jumpI x)::chainS s (S.drop (i+1)) (i+1) (left - 1) (l'.length+1))=l++chainS s S 0 L0 l.length):=by
     have:=HE.out
     rw [HDR.out] at this
     simp only [chainS,hb,if_true] at this
     exact this
    clear HE HDR
    rw [hb]
    obtain ⟨cp,cc,hcv⟩:=ownsLenX HW.out.co
    subst hcv
    have c1:=HW.out.c1
    by_cases hz:left - 1>0
    ·rw [if_pos hz] at HE2
     go_wp2
     go_region
     all_goals
      go_wp2_with fail
      refine (add_any R _ _ S l' (splitI x (l'.length+1)) _ (HW.out.nw (((Kp.refl _ wr).alloc _).drew)) (by omega)).mono ?_
      rintro e w1 ⟨rfl,cv2,hC,hk1⟩
      have HC:Hid (CwM w1 R (.slice (some ⟨g,0,none⟩) S.length tc) cv2 S (l'++[splitI x (l'.length+1)])):=hC
      have HK1:Hid (Kp (fun b=>R≤b) wr w1):=((((Kp.refl (fun _=>False) wr).alloc _).drew).mono (fun _ _ h=>h.elim)).trans hk1
      clear hC hk1
      go_wp2
      go_roundg (S.length - (i+1))
      case measure=>rw [HM.out];omega
      case rel=>exact ⟨i+1,left - 1,cv2,l'++[splitI x (l'.length+1)],by simp,by simp,rfl,by omega,by omega,by omega,by simp;omega,HC.out,by have:=HE2.out;simpa [List.append_assoc] using this,HK.out.trans HK1.out⟩
    ·rw [if_neg hz] at HE2
     go_wp2_with fail
     refine (add_any R _ _ S l' (jumpI x) _ (HW.out.nw ((Kp.refl _ wr).alloc _)) (by omega)).mono ?_
     rintro e w1 ⟨rfl,cv2,hC,hk1⟩
     have HC:Hid (CwM w1 R (.slice (some ⟨g,0,none⟩) S.length tc) cv2 S (l'++[jumpI x])):=hC
     have HK1:Hid (Kp (fun b=>R≤b) wr w1):=(((Kp.refl (fun _=>False) wr).alloc _).mono (fun _ _ h=>h.elim)).trans hk1
     clear hC hk1
     go_wp2
     go_roundg (S.length - (i+1))
     case measure=>rw [HM.out];omega
     case rel=>exact ⟨i+1,left - 1,cv2,l'++[jumpI x],by simp,by simp,rfl,by omega,by omega,by omega,by simp;omega,HC.out,by have:=HE2.out;simpa [List.append_assoc] using this,HK.out.trans HK1.out⟩
   ·have hb':hasS s i=false:=by simpa using hb
    have HE2:Hid (l'++chainS s (S.drop (i+1)) (i+1) left l'.length=l++chainS s S 0 L0 l.length):=by
     have:=HE.out
     rw [HDR.out] at this
     simp only [chainS,hb'] at this
     exact this
    clear HE HDR
    rw [hb']
    go_wp2
    go_roundg (S.length - (i+1))
    case measure=>rw [HM.out];omega
    case rel=>exact ⟨i+1,left,cv',l',rfl,by simp,rfl,by omega,by omega,by omega,by omega,HW.out,HE2.out,HK.out⟩
  ·have hie:i=S.length:=by omega
   subst hie
   have HF:Hid (l'=l++chainS s S 0 L0 l.length):=by
    have:=HE.out
    rw [List.drop_length] at this
    show l'=_
    simpa [chainS] using this
   go_wp2
   go_end0
   exact ⟨rfl,cv',HF.out ▸ HW.out,HK.out⟩
structure Hds (w:World) (B:Nat) (hv:Value) (hs:List (Value×List In)):Prop where
 row:w.ownsRow B 49 1 hv hs.length (hs.map (·.1))
 each:∀x∈hs,w.ownsRow B 109 14 x.1 x.2.length (codeC x.2)
theorem Hds.kp {S:Nat→Prop} {w w':World} {B:Nat} {hv:Value} {hs:List (Value×List In)} (h:Hds w B hv hs) (k:Kp S w w') (hS:∀b,B≤b→b<w.heap.size→¬S b):Hds w' B hv hs :=
 ⟨owns_kp h.row k (fun b hb=>hS b (h.row.lt b hb).1 (h.row.lt b hb).2),fun x hx=>owns_kp (h.each x hx) k (fun b hb=>hS b ((h.each x hx).lt b hb).1 ((h.each x hx).lt b hb).2)⟩
def startsS:List Nat→List Nat→Nat→List Nat
 | h::hr,f::fr,a=>a::startsS hr fr (a+(h+countS f))
 | _,_,a=>[a]
theorem startsS_len:∀(H F:List Nat) (a:Nat),H.length=F.length→(startsS H F a).length=F.length+1:=by
 intro H
 induction H with
 | nil=>intro F a h;cases F with
  | nil=>rfl
  | cons f r=>simp at h
 | cons x r ih=>intro F a h;cases F with
  | nil=>simp at h
  | cons f fr=>simp only [startsS,List.length_cons];rw [ih fr _ (by simpa using h)]
theorem startsOf_any (first:Nat) (sv fv hv:Value) (F:List Nat) (hs:List (Value×List In)) (w:World) (hf:first<2 ^ 25) (hF:Sets F) (ho:w.ownsRow 0 91 1 fv F.length (intsV F)) (hh:Hds w 0 hv hs) (hn:hs.length=F.length) (hb:F.length≤10000) (hl:∀x∈hs,x.2.length≤1000) :
  Calls Tryz.prog 38 #[.agg #[sv,.int .i64 first,fv],hv] w fun e w' =>
   ∃v,e=.returned v∧w'.ownsRow (w.heap.size+1) 3 1 v (F.length+1) (intsV (startsS (hs.map (fun x=>x.2.length)) F (countS first)))∧Nw w w':=by
 have HCT:Hid (∀s W,s<2 ^ 25→Calls Tryz.prog 70 #[.int .i64 (s:Nat)] W fun e w'=>e=.returned (.int .i64 (countS s:Nat))∧w'=W):=fun s W hs=>countS_any s W hs
 have HCL:Hid (∀s,countS s≤25):=fun s=>cntS_le s 25
 obtain ⟨hp,hc,rfl⟩:=ownsLenX hh.row
 obtain ⟨fp,fc,rfl⟩:=ownsLenX ho
 rw [hn]
 have HO:Hid (w.ownsRow 0 91 1 (.slice fp F.length fc) F.length (intsV F)):=ho
 have HH:Hid (w.ownsRow 0 49 1 (.slice hp F.length hc) F.length (hs.map (·.1))):=by have:=hh.row;rw [hn] at this;exact this
 have HE:Hid (∀x∈hs,w.ownsRow 0 109 14 x.1 x.2.length (codeC x.2)):=hh.each
 have HN:Hid (hs.length=F.length):=hn
 have HF:Hid (Sets F):=hF
 have HL:Hid (∀x∈hs,x.2.length≤1000):=hl
 obtain ⟨i1,hi1,hy0,hy1,hy2⟩:=info_parts Tryz.info3
 clear ho hh hn hF hl
 go_enter Tryz.func38,Tryz.ntmps38
 go_wp2_with fail
 refine (HCT.out first _ hf).mono ?_
 rintro e w1 ⟨rfl,hw1⟩
 have hw2:=hw1.symm
 subst hw2
 clear hw1
 go_wp2
 have HB:Hid ((w.alloc (.cells #[sv,.int .i64 first,.slice fp F.length fc] 94)).cell? ⟨w.heap.size,2,none⟩=some (.slice fp F.length fc)):=by show _=_;simp [go_sem,World.cell?_alloc_at]
 have HW0:Hid (Nw w (w.alloc (.cells #[sv,.int .i64 first,.slice fp F.length fc] 94))):=(Kp.refl _ w).alloc _
 have HS0:Hid ((w.alloc (.cells #[sv,.int .i64 first,.slice fp F.length fc] 94)).heap.size=w.heap.size+1):=by show _=_;simp
 generalize w.alloc (.cells #[sv,.int .i64 first,.slice fp F.length fc] 94)=W0 at *
 have hc0:=HCL.out first
 go_loopg [5,6,7] F.length (fun m v5 v6 v7 wr=>∃(i a:Nat) (S':List Nat),v6=.int .i64 a∧v7=.int .i64 i∧m=F.length - i∧i≤F.length∧a≤25+i*1025∧S'.length=i∧wr.ownsRow (w.heap.size+1) 3 1 v5 i (intsV S')∧S'++startsS ((hs.drop i).map (fun x=>x.2.length)) (F.drop i) a=startsS (hs.map (fun x=>x.2.length)) F (countS first)∧Nw W0 wr)
 case atStart=>exact ⟨0,countS first,[],rfl,rfl,rfl,by omega,by omega,rfl,World.ownsRow_nil _ _ _ _,rfl,Kp.refl _ _⟩
 case round =>
  obtain ⟨i,a,S',rfl,rfl,hm,hi,ha,hSl,hw,he,hk⟩:=hrel
  have HM:Hid (_=F.length - i):=hm
  have HW:Hid (wr.ownsRow (w.heap.size+1) 3 1 u5 i (intsV S')):=hw
  have HK:Hid (Nw W0 wr):=hk
  have HEQ:Hid (S'++startsS ((hs.drop i).map (fun x=>x.2.length)) (F.drop i) a=startsS (hs.map (fun x=>x.2.length)) F (countS first)):=he
  have HSL:Hid (S'.length=i):=hSl
  have hszr:w.heap.size+1≤wr.heap.size:=by have:=hk.size;rw [HS0.out] at this;exact this
  clear hm hw hk he hSl
  obtain ⟨up,uc,hu5⟩:=ownsLenX HW.out
  subst hu5
  have b2:wr.cell? ⟨w.heap.size,2,none⟩=some (.slice fp F.length fc):=(HK.out.cell (p:=⟨w.heap.size,2,none⟩) (by rw [HS0.out];exact Nat.lt_succ_self _) (fun h=>h)).trans HB.out
  by_cases hil:i<F.length
  ·obtain ⟨y,hy⟩:∃y,F[i]? = some y:=⟨_,List.getElem?_eq_getElem hil⟩
   obtain ⟨x,hx⟩:∃x,hs[i]? = some x:=⟨_,List.getElem?_eq_getElem (by rw [HN.out];exact hil)⟩
   have hyb:=HF.out y (List.mem_of_getElem? hy)
   have hxl:=HL.out x (List.mem_of_getElem? hx)
   have hcy:=HCL.out y
   have HEQ2:Hid (S'++[a]++startsS ((hs.drop (i+1)).map (fun x=>x.2.length)) (F.drop (i+1)) (a+(x.2.length+countS y))=startsS (hs.map (fun x=>x.2.length)) F (countS first)):=by
    have e:=HEQ.out
    obtain ⟨h1,h2⟩:=List.getElem?_eq_some_iff.1 hx
    obtain ⟨h3,h4⟩:=List.getElem?_eq_some_iff.1 hy
    rw [List.drop_eq_getElem_cons h1,h2,List.drop_eq_getElem_cons h3,h4] at e
    simp only [List.map_cons,startsS] at e
    show _=_
    rw [List.append_assoc];exact e
   obtain ⟨gf,cf,hvf⟩:=owns_some HO.out (by omega)
   simp only [Value.slice.injEq] at hvf
   obtain ⟨rfl,_,rfl⟩:=hvf
   obtain ⟨gh,ch,hvh⟩:=owns_some HH.out (by omega)
   simp only [Value.slice.injEq] at hvh
   obtain ⟨rfl,_,rfl⟩:=hvh
   obtain ⟨xv,xl⟩:=x
   simp only at hxl hcy HEQ2
   have hxo:=HE.out (xv,xl) (List.mem_of_getElem? hx)
   obtain ⟨xp,xc,hxv⟩:=ownsLenX hxo
   simp only at hxv
   subst hxv
   have HCF:Hid (∀W,Nw w W→W.cell? ⟨gf,i,none⟩=some (.int .i64 y)∧W.cell? ⟨gh,i,none⟩=some (.slice xp xl.length xc)):=by
    intro W hW
    exact ⟨owns_cell (owns_kp HO.out hW (fun _ _ h=>h)) i (intsV_get hy),owns_cell (owns_kp HH.out hW (fun _ _ h=>h)) i (by rw [List.getElem?_map,hx];rfl)⟩
   have hgf:=(HO.out.lt gf rfl).2
   have hgh:=(HH.out.lt gh rfl).2
   clear hy hx hxo
   go_wp2_with (at_builtin;refine wpList_append_lies _ rfl _ _ 22 rfl (w.heap.size+1) 3 i1 (.int .i64 0) 1 8 Tryz.underlying22 hi1 hy0 hy1 hy2 rfl (by decide) _ _ _ rfl (HW.out.alloc _) ⟨wr.heap.size,0,none⟩ 1 1 [.int .i64 (a:Int)] rfl rfl ?c1 ?c2 (by decide) ?c3 ?c4 ?c5 _ rfl ?_)
   case c1=>exact news_one _ (by simp) _ _
   case c2=>exact intsV_one [a]
   case c3=>unfold maxLen;omega
   case c4=>omega
   case c5=>simp;omega
   intro g3 cap3 w3 hown3 hgrow hat hlt3
   have HK3:Hid (Nw W0 w3):=((HK.out.mono (fun _ _ h=>h)).alloc _).grown hgrow (fun b hb=>Or.inl (by rw [HS0.out];exact ((HW.out.lt b hb).1)))
   have HO3:Hid (w3.ownsRow (w.heap.size+1) 3 1 (.slice (some ⟨g3,0,none⟩) (i+1) cap3) (i+1) (intsV (S'++[a]))):=by
    show w3.ownsRow _ _ _ _ _ _
    rw [show intsV (S'++[a])=intsV S'++[.int .i64 (a:Int)] by simp [intsV]]
    exact hown3
   obtain ⟨z1,z2⟩:=HCF.out w3 (HW0.out.trans HK3.out)
   have z3:w3.cell? ⟨w.heap.size,2,none⟩=some (.slice (some ⟨gf,0,none⟩) F.length fc):=(HK3.out.cell (p:=⟨w.heap.size,2,none⟩) (by rw [HS0.out];exact Nat.lt_succ_self _) (fun h=>h)).trans HB.out
   clear hown3 hgrow hat b2
   go_wp2
   go_quiet ((go_at_call 70;exact Calls.quiet_of_same (HCT.out y _ hyb)))
   generalize countS y=cy at *
   go_wp2
   go_roundg (F.length - (i+1))
   case measure=>rw [HM.out];omega
   case rel=>exact ⟨i+1,a+(xl.length+cy),S'++[a],by simp,by simp,rfl,by omega,by omega,by simp [HSL.out],owns_kp HO3.out ((Kp.refl (fun _=>False) w3).drewN _) (fun _ _ h=>h),HEQ2.out,HK3.out.trans ((Kp.refl (fun _=>False) w3).drewN _)⟩
  ·have hie:i=F.length:=by omega
   subst hie
   have hd:decide ((F.length:Nat)<F.length)=false:=by simp
   go_wp2_with (at_builtin;refine wpList_append_lies _ rfl _ _ 22 rfl (w.heap.size+1) 3 i1 (.int .i64 0) 1 8 Tryz.underlying22 hi1 hy0 hy1 hy2 rfl (by decide) _ _ _ rfl (HW.out.alloc _) ⟨wr.heap.size,0,none⟩ 1 1 [.int .i64 (a:Int)] rfl rfl ?c1 ?c2 (by decide) ?c3 ?c4 ?c5 _ rfl ?_)
   case c1=>exact news_one _ (by simp) _ _
   case c2=>exact intsV_one [a]
   case c3=>unfold maxLen;omega
   case c4=>omega
   case c5=>simp;omega
   intro g3 cap3 w3 hown3 hgrow hat hlt3
   go_wp2
   go_ret
   refine ⟨_,rfl,?_,?_⟩
   ·have e:=HEQ.out
    have hdr:hs.drop F.length=[]:=by rw [←HN.out,List.drop_length]
    rw [hdr,List.drop_length] at e
    simp only [List.map_nil,startsS] at e
    rw [←e,show intsV (S'++[a])=intsV S'++[.int .i64 (a:Int)] by simp [intsV]]
    exact hown3
   ·exact HW0.out.trans (((HK.out.mono (fun _ _ h=>h)).alloc _).grown hgrow (fun b hb=>Or.inl (by rw [HS0.out];exact ((HW.out.lt b hb).1))) |>.mono (fun _ _ h=>h))
end Go.Proofs.YtcboiapggnmpfabGreatDoor
