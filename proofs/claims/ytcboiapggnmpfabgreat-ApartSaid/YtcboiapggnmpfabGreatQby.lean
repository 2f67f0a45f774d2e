import Derived.Test.YtcboiapggnmpfabGreatQbx
import Derived.Test.YtcboiapggnmpfabGreatQbv
namespace Go.Proofs.YtcboiapggnmpfabGreat
set_option linter.unusedSimpArgs false
set_option linter.unusedVariables false
open Go.RowKit
theorem ahead_iff (t o:Thr):aheadB t o=true↔(t.first<o.first∨(t.first=o.first∧(t.h0.n<o.h0.n∨(t.h0.n=o.h0.n∧(t.h1.n<o.h1.n∨(t.h1.n=o.h1.n∧(t.h2.n<o.h2.n∨(t.h2.n=o.h2.n∧(t.h3.n<o.h3.n∨(t.h3.n=o.h3.n∧t.at'<o.at')))))))))):=by
 unfold aheadB
 simp only [aheadF,Thr.hd]
 split
 ·split
  ·split
   ·split
    ·split
     ·simp only [decide_eq_true_eq];omega
     ·simp only [decide_eq_true_eq];omega
    ·simp only [decide_eq_true_eq];omega
   ·simp only [decide_eq_true_eq];omega
  ·simp only [decide_eq_true_eq];omega
 ·simp only [decide_eq_true_eq];omega
theorem ahead_trans {a b c:Thr} (h1:aheadB a b=true) (h2:aheadB b c=true):aheadB a c=true:=by
 rw [ahead_iff] at *;omega
theorem ahead_irr {a:Thr}:¬aheadB a a=true:=by
 rw [ahead_iff];omega
theorem ahead_asym {a b:Thr} (h1:aheadB a b=true):¬aheadB b a=true:=fun h2=>ahead_irr (ahead_trans h1 h2)
def Srt (l:List Thr):Prop:=l.Pairwise (fun a b=>aheadB a b=true)
theorem Srt.at {l:List Thr} (h:Srt l) {i j:Nat} {a b:Thr} (hij:i<j) (ha:l[i]? = some a) (hb:l[j]? = some b):aheadB a b=true:=by
 obtain ⟨h1,rfl⟩:=List.getElem?_eq_some_iff.1 ha
 obtain ⟨h2,rfl⟩:=List.getElem?_eq_some_iff.1 hb
 exact (List.pairwise_iff_getElem.1 h) i j h1 h2 hij
theorem Srt.eq:∀ {l l':List Thr},Srt l→Srt l'→(∀u,u∈l↔u∈l')→l=l':=by
 intro l
 induction l with
 | nil =>
  intro l' _ _ h
  cases l' with
  | nil=>rfl
  | cons b r=>exact absurd ((h b).2 List.mem_cons_self) (by simp)
 | cons a r ih =>
  intro l' h1 h2 h
  cases l' with
  | nil=>exact absurd ((h a).1 List.mem_cons_self) (by simp)
  | cons b r' =>
   have p1:=List.pairwise_cons.1 h1
   have p2:=List.pairwise_cons.1 h2
   have hab:a=b:=by
    rcases List.mem_cons.1 ((h a).1 List.mem_cons_self) with e|e
    ·exact e
    ·rcases List.mem_cons.1 ((h b).2 List.mem_cons_self) with e2|e2
     ·exact e2.symm
     ·exact absurd (p1.1 b e2) (ahead_asym (p2.1 a e))
   subst hab
   rw [ih p1.2 p2.2]
   intro u
   constructor
   ·intro hu
    rcases List.mem_cons.1 ((h u).1 (List.mem_cons_of_mem _ hu)) with e|e
    ·subst e;exact absurd (p1.1 _ hu) ahead_irr
    ·exact e
   ·intro hu
    rcases List.mem_cons.1 ((h u).2 (List.mem_cons_of_mem _ hu)) with e|e
    ·subst e;exact absurd (p2.1 _ hu) ahead_irr
    ·exact e
theorem plcFT_spec {l:List Thr} {t:Thr} (hs:Srt l):∀(m lo hi:Nat),lo≤hi→hi≤l.length→hi - lo≤m→(∀i u,i<lo→l[i]? = some u→aheadB u t=true)→(∀i u,hi≤i→l[i]? = some u→¬aheadB u t=true) →
  (∀i u,i<plcFT l t m lo hi→l[i]? = some u→aheadB u t=true)∧(∀i u,plcFT l t m lo hi≤i→l[i]? = some u→¬aheadB u t=true):=by
 intro m
 induction m with
 | zero =>
  intro lo hi h1 h2 h3 ha hb
  unfold plcFT
  exact ⟨ha,fun i u hi2 hu=>hb i u (by omega) hu⟩
 | succ m ih =>
  intro lo hi h1 h2 h3 ha hb
  unfold plcFT
  by_cases hlt:lo<hi
  ·rw [if_pos hlt]
   have hm1:lo+(hi - lo) / 2<hi:=by omega
   obtain ⟨v,hv⟩:∃v,l[lo+(hi - lo) / 2]? = some v:=⟨l[lo+(hi - lo) / 2]'(by omega),by simp⟩
   rw [hv]
   simp only
   split
   ·rename_i hav
    refine ih _ _ (by omega) h2 (by omega) ?_ hb
    intro i u hi2 hu
    by_cases e:i=lo+(hi - lo) / 2
    ·subst e;rw [hv] at hu;cases hu;exact hav
    ·exact ahead_trans (hs.at (by omega) hu hv) hav
   ·rename_i hav
    refine ih _ _ (by omega) (by omega) (by omega) ha ?_
    intro i u hi2 hu hau
    by_cases e:i=lo+(hi - lo) / 2
    ·subst e;rw [hv] at hu;cases hu;exact hav hau
    ·exact hav (ahead_trans (hs.at (by omega) hv hu) hau)
  ·rw [if_neg hlt]
   exact ⟨ha,fun i u hi2 hu=>hb i u (by omega) hu⟩
theorem plcT_spec {l:List Thr} {t:Thr} (hs:Srt l):(∀i u,i<plcT l t→l[i]? = some u→aheadB u t=true)∧(∀i u,plcT l t≤i→l[i]? = some u→¬aheadB u t=true) :=
 plcFT_spec hs _ _ _ (by omega) (by omega) (by omega) (fun i u h=>by omega) (fun i u h hu=>by have:=(List.getElem?_eq_some_iff.1 hu).1;omega)
theorem addC_srt {c:Crw} {t:Thr} (hs:Srt c.l) (hk:∀u∈c.l,u=t∨aheadB u t=true∨aheadB t u=true):Srt (addC c t).l:=by
 obtain ⟨h1,h2⟩:=plcT_spec (t:=t) hs
 unfold addC
 split
 ·exact hs
 split
 ·exact hs
 ·rename_i e1 e2
  show Srt (c.l.take (plcT c.l t)++t::c.l.drop (plcT c.l t))
  have hle:=plcT_le c.l t
  have hA:∀u∈c.l.take (plcT c.l t),aheadB u t=true:=by
   intro u hu
   obtain ⟨i,hi⟩:=List.mem_iff_getElem?.1 hu
   rw [List.getElem?_take] at hi
   split at hi
   ·exact h1 i u (by omega) hi
   ·cases hi
  have hB:∀u∈c.l.drop (plcT c.l t),aheadB t u=true:=by
   intro u hu
   obtain ⟨i,hi⟩:=List.mem_iff_getElem?.1 hu
   rw [List.getElem?_drop] at hi
   have hna:=h2 _ u (by omega) hi
   rcases hk u (List.mem_of_mem_drop hu) with e|e|e
   ·subst e
    exfalso
    by_cases ei:i=0
    ·subst ei;exact e1 (by simpa using hi)
    ·obtain ⟨v,hv⟩:∃v,c.l[plcT c.l u]? = some v:=⟨c.l[plcT c.l u]'(by have:=(List.getElem?_eq_some_iff.1 hi).1;omega),by simp⟩
     exact h2 _ v (by omega) hv (hs.at (by omega) hv hi)
   ·exact absurd e hna
   ·exact e
  refine List.pairwise_append.2 ⟨List.Pairwise.sublist (List.take_sublist _ _) hs,List.pairwise_cons.2 ⟨hB,List.Pairwise.sublist (List.drop_sublist _ _) hs⟩,?_⟩
  intro a ha b hb
  rcases List.mem_cons.1 hb with e|e
  ·subst e;exact hA a ha
  ·exact ahead_trans (hA a ha) (hB b e)
structure Tru (L:List Evt) (t:Thr):Prop where
 f:∃(n:Nat) (e:Evt),t.first=n∧L[n]? = some e∧t.began=e.at'
 h:∀k,t.hd k=nmb0∨∃n:Nat,(t.hd k).n=n∧L[n]? = some (t.hd k).e
theorem nmb_tri {L:List Evt} {a b:Nmb} (ha:a=nmb0∨∃n:Nat,a.n=n∧L[n]? = some a.e) (hb:b=nmb0∨∃n:Nat,b.n=n∧L[n]? = some b.e) (h:a.n=b.n):a=b:=by
 obtain ⟨an,ae⟩:=a
 obtain ⟨bn,be⟩:=b
 simp only [nmb0,Nmb.mk.injEq] at *
 subst h
 rcases ha with ⟨h1,rfl⟩ | ⟨n,h1,h2⟩ <;> rcases hb with ⟨h3,rfl⟩ | ⟨m,h3,h4⟩
 ·exact ⟨rfl,rfl⟩
 ·omega
 ·omega
 ·have:n=m:=by omega
  subst this
  rw [h2] at h4
  cases h4
  exact ⟨rfl,rfl⟩
theorem Tru.tri {L:List Evt} {u t:Thr} (hu:Tru L u) (ht:Tru L t):u=t∨aheadB u t=true∨aheadB t u=true:=by
 by_cases h1:aheadB u t=true
 ·exact Or.inr (Or.inl h1)
 by_cases h2:aheadB t u=true
 ·exact Or.inr (Or.inr h2)
 left
 rw [ahead_iff] at h1 h2
 have e0:u.first=t.first:=by omega
 have e1:u.h0.n=t.h0.n:=by omega
 have e2:u.h1.n=t.h1.n:=by omega
 have e3:u.h2.n=t.h2.n:=by omega
 have e4:u.h3.n=t.h3.n:=by omega
 have e5:u.at'=t.at':=by omega
 have f0:=nmb_tri (hu.h 0) (ht.h 0) e1
 have f1:=nmb_tri (hu.h 1) (ht.h 1) e2
 have f2:=nmb_tri (hu.h 2) (ht.h 2) e3
 have f3:=nmb_tri (hu.h 3) (ht.h 3) e4
 have e6:u.began=t.began:=by
  obtain ⟨n,e,a1,a2,a3⟩:=hu.f
  obtain ⟨m,e',b1,b2,b3⟩:=ht.f
  have:n=m:=by omega
  subst this
  rw [a2] at b2
  cases b2
  rw [a3,b3]
 cases u;cases t
 simp only [Thr.hd] at *
 simp_all
theorem held_tru {L:List Evt} {i:Nat} {e:Evt} (he:L[i]? = some e) {t:Thr} (ht:Tru L t) (p:Int) (an:Nat):heldS ⟨i,e⟩ t p an=nmb0∨∃n:Nat,(heldS ⟨i,e⟩ t p an).n=n∧L[n]? = some (heldS ⟨i,e⟩ t p an).e:=by
 unfold heldS
 split
 ·exact Or.inr ⟨i,rfl,he⟩
 split
 ·exact Or.inl rfl
 ·exact ht.h _
theorem thread_tru {L:List Evt} {i:Nat} {e:Evt} (he:L[i]? = some e) {t:Thr} (ht:Tru L t) (a:Int) (an:Nat):Tru L (threadS ⟨i,e⟩ t a an):=by
 refine ⟨ht.f,?_⟩
 intro k
 match k with
 | 0=>exact held_tru he ht 0 an
 | 1=>exact held_tru he ht 1 an
 | 2=>exact held_tru he ht 2 an
 | (k+3)=>exact held_tru he ht 3 an
theorem new_tru {L:List Evt} {i:Nat} {e:Evt} (he:L[i]? = some e) (a:Int):Tru L (newT a ⟨i,e⟩):=by
 refine ⟨⟨i,e,rfl,he,rfl⟩,?_⟩
 intro k
 left
 match k with
 | 0=>rfl
 | 1=>rfl
 | 2=>rfl
 | (k+3)=>rfl
def SrtC (L:List Evt) (c:Crw):Prop:=Srt c.l∧∀u∈c.l,Tru L u
theorem addC_sub {c:Crw} {t u:Thr} (h:u∈(addC c t).l):u∈c.l∨u=t:=by
 unfold addC at h
 split at h
 ·exact Or.inl h
 ·split at h
  ·exact Or.inl h
  ·rcases List.mem_append.1 h with e|e
   ·exact Or.inl (List.mem_of_mem_take e)
   ·rcases List.mem_cons.1 e with e|e
    ·exact Or.inr e
    ·exact Or.inl (List.mem_of_mem_drop e)
theorem SrtC.add {L:List Evt} {c:Crw} {t:Thr} (h:SrtC L c) (ht:Tru L t):SrtC L (addC c t):=by
 refine ⟨addC_srt h.1 (fun u hu=>(h.2 u hu).tri ht),?_⟩
 intro u hu
 rcases addC_sub hu with h1|h1
 ·exact h.2 u h1
 ·subst h1;exact ht
theorem lv_srt {L:List Evt} {hand:Nmb} {t:Thr} (ht:∀a an,Tru L (threadS hand t a an)) (s:Tn) (a:Int) (an:Nat) (x:In) (h:SrtC L s.wait∧SrtC L s.ended):SrtC L (lvS hand t s a an x).wait∧SrtC L (lvS hand t s a an x).ended:=by
 have hr:∀(s:Tn) z (n:Nat),(rchS s z n).wait=s.wait∧(rchS s z n).ended=s.ended:=rchS_wait
 unfold lvS
 split
 ·exact ⟨h.1.add (ht _ _),h.2⟩
 split
 ·split
  ·rw [(hr _ _ _).1,(hr _ _ _).2];exact h
  ·exact h
 split
 ·split
  ·rw [(hr _ _ _).1,(hr _ _ _).2];exact h
  ·exact h
 split
 ·rw [(hr _ _ _).1,(hr _ _ _).2];exact h
 split
 ·rw [(hr _ _ _).1,(hr _ _ _).2];exact h
 split
 ·rw [(hr _ _ _).1,(hr _ _ _).2,(hr _ _ _).1,(hr _ _ _).2];exact h
 split
 ·exact ⟨h.1,h.2.add (ht _ _)⟩
 ·exact h
theorem goF_srt {L:List Evt} {code:List In} {hand:Nmb} {t:Thr} (ht:∀a an,Tru L (threadS hand t a an)):∀(m:Nat) (s:Tn),(SrtC L s.wait∧SrtC L s.ended)→SrtC L (goF code hand t m s).wait∧SrtC L (goF code hand t m s).ended:=by
 intro m
 induction m with
 | zero=>intro s h;exact h
 | succ m ih =>
  intro s h
  unfold goF
  split
  ·exact h
  split
  ·exact h
  split
  ·exact h
  ·exact ih _ (lv_srt ht _ _ _ _ h)
theorem goOn_srt {L:List Evt} {code:List In} {hand:Nmb} {t:Thr} (ht:∀a an,Tru L (threadS hand t a an)) (c:Crw×Crw) (h:SrtC L c.1∧SrtC L c.2):SrtC L (goOnS code hand c t).1∧SrtC L (goOnS code hand c t).2:=by
 unfold goOnS
 split
 ·exact h
 split
 ·exact goF_srt ht _ _ (by rw [(rchS_wait _ _ _).1,(rchS_wait _ _ _).2];exact h)
 ·exact h
theorem fold_srt {L:List Evt} {code:List In} {hand:Nmb}:∀(ts:List Thr) (c:Crw×Crw),(∀t∈ts,∀a an,Tru L (threadS hand t a an))→(SrtC L c.1∧SrtC L c.2)→SrtC L (ts.foldl (goOnS code hand) c).1∧SrtC L (ts.foldl (goOnS code hand) c).2:=by
 intro ts
 induction ts with
 | nil=>intro c _ h;exact h
 | cons t r ih =>
  intro c ht h
  exact ih _ (fun u hu=>ht u (List.mem_cons_of_mem _ hu)) (goOn_srt (ht t List.mem_cons_self) c h)
theorem step_srt {L:List Evt} {code:List In} {i:Nat} {e:Evt} (he:L[i]? = some e) {ws:List Thr} {bs:List Nat} {live found:Int} (hw:∀t∈ws,Tru L t):SrtC L (stepS code ⟨i,e⟩ ws bs live found).1∧SrtC L (stepS code ⟨i,e⟩ ws bs live found).2:=by
 unfold stepS
 refine fold_srt _ _ ?_ (fold_srt _ _ (fun t ht a an=>thread_tru he (hw t ht) a an) ⟨⟨List.Pairwise.nil,by simp⟩,⟨List.Pairwise.nil,by simp⟩⟩)
 intro t ht a an
 obtain ⟨b,_,rfl⟩:=List.mem_map.1 ht
 exact thread_tru he (new_tru he _) a an
def Wt (code:List In) (bs:List Nat) (L:List Evt):Nat→Thr→Prop
 | 0,_=>False
 | i+1,u=>∃e t,L[i]? = some e∧(Wt code bs L i t∨∃b∈bs,t=newT (b:Int) ⟨i,e⟩)∧GoW code ⟨i,e⟩ t u
def Et (code:List In) (bs:List Nat) (L:List Evt) (i:Nat) (u:Thr):Prop:=∃e t,L[i]? = some e∧(Wt code bs L i t∨∃b∈bs,t=newT (b:Int) ⟨i,e⟩)∧GoE code ⟨i,e⟩ t u
theorem rc_in {code:List In} (hI:Inb code) {hand:Nmb} {t:Thr} (ht:AtTk code t) {a:Int} {an:Nat} (h:RcT code hand t a an):0≤a∧a<code.length∧an<16:=by
 induction h with
 | zero=>exact ⟨by have:=ht.1;omega,ht.2,by omega⟩
 | next h1 h2 h3 ih =>
  rename_i a an x b bn
  have e:((a.toNat:Nat):Int)=a:=by omega
  have:=nx_in (hand:=hand) (t:=t) hI h2 ih.2.2
  rw [e] at this
  exact this _ h3
theorem goW_at {code:List In} (hI:Inb code) {hand:Nmb} {t u:Thr} (ht:AtTk code t) (h:GoW code hand t u):AtTk code u:=by
 obtain ⟨x,_,_,a,an,y,hr,hy,ho,rfl⟩:=h
 have h1:=rc_in hI ht hr
 have h2:=(hI _ y hy).1 (Or.inl ho)
 exact ⟨h1.1,by show a+1<_;omega⟩
theorem new_at {code:List In} {b:Nat} {hand:Nmb} (h:b+1<code.length):AtTk code (newT (b:Int) hand):=⟨by show (0:Int)≤(b:Int);omega,by show (b:Int)+1<_;omega⟩
theorem wt_at {code:List In} (hI:Inb code) {bs:List Nat} (hb:∀b∈bs,b+1<code.length) {L:List Evt}:∀(i:Nat) (u:Thr),Wt code bs L i u→AtTk code u∧Tru L u:=by
 intro i
 induction i with
 | zero=>intro u h;exact h.elim
 | succ i ih =>
  rintro u ⟨e,t,he,ht,hg⟩
  have h1:AtTk code t∧Tru L t:=by
   rcases ht with ht|⟨b,hb2,rfl⟩
   ·exact ih t ht
   ·exact ⟨new_at (hb b hb2),new_tru he _⟩
  refine ⟨goW_at hI h1.1 hg,?_⟩
  obtain ⟨x,_,_,a,an,y,hr,hy,ho,rfl⟩:=hg
  exact thread_tru he h1.2 _ _
theorem feed_ok {sc:List Int} {code:List In} {bs:List Nat} {live found:Int} {r:Rst} {e:Evt} (h:(feedS sc code bs live found r e).2.2=0) :
  (stepS code ⟨r.count,e⟩ r.ws bs live found).1.over=false∧(stepS code ⟨r.count,e⟩ r.ws bs live found).2.over=false∧(feedS sc code bs live found r e).1.ws=(stepS code ⟨r.count,e⟩ r.ws bs live found).1.l∧(feedS sc code bs live found r e).1.count=r.count+1∧(feedS sc code bs live found r e).2.1=(stepS code ⟨r.count,e⟩ r.ws bs live found).2.l.map (fun t=>matchT t r.count):=by
 unfold feedS at h ⊢
 split at h
 ·simp at h
 split at h
 ·simp at h
 split at h
 ·simp at h
 ·rename_i h1 h2 h3
  rw [if_neg h1,if_neg h2,if_neg h3]
  rw [Bool.or_eq_true] at h3
  exact ⟨notT (fun e=>h3 (Or.inl e)),notT (fun e=>h3 (Or.inr e)),rfl,rfl,rfl⟩
theorem run_mean {sc:List Int} {code:List In} {bs:List Nat} {live found:Int} {L:List Evt} (hI:Inb code) (hb:∀b∈bs,b+1<code.length)
  (hok:∀i e,L[i]? = some e→(feedS sc code bs live found (runS sc code bs live found ⟨[],0,0,false⟩ (L.take i)) e).2.2=0) :
  ∀i,i≤L.length→(runS sc code bs live found ⟨[],0,0,false⟩ (L.take i)).count=i∧Srt (runS sc code bs live found ⟨[],0,0,false⟩ (L.take i)).ws∧∀u,u∈(runS sc code bs live found ⟨[],0,0,false⟩ (L.take i)).ws↔Wt code bs L i u:=by
 intro i
 induction i with
 | zero=>intro _;exact ⟨rfl,List.Pairwise.nil,fun u=>by simp [runS,Wt]⟩
 | succ i ih =>
  intro hi
  obtain ⟨c,s,m⟩:=ih (by omega)
  obtain ⟨e,he⟩:∃e,L[i]? = some e:=⟨L[i],by simp [show i<L.length by omega]⟩
  have hr:runS sc code bs live found ⟨[],0,0,false⟩ (L.take (i+1))=(feedS sc code bs live found (runS sc code bs live found ⟨[],0,0,false⟩ (L.take i)) e).1:=by
   rw [List.take_add_one,he];unfold runS;rw [List.foldl_append];rfl
  obtain ⟨o1,o2,f1,f2,f3⟩:=feed_ok (hok i e he)
  rw [c] at o1 o2 f1
  have hat:=fun t ht=>wt_at hI hb (L:=L) i t ((m t).1 ht)
  obtain ⟨g1,_⟩:=step_iff hI (fun t ht=>(hat t ht).1) hb o1 o2
  obtain ⟨s1,_⟩:=step_srt (code:=code) (bs:=bs) (live:=live) (found:=found) he (fun t ht=>(hat t ht).2)
  rw [hr]
  refine ⟨by rw [f2,c],by rw [f1];exact s1.1,fun u => ?_⟩
  rw [f1,g1]
  constructor
  ·rintro ⟨t,ht,hg⟩
   refine ⟨e,t,he,?_,hg⟩
   rcases ht with ht|ht
   ·exact Or.inl ((m t).1 ht)
   ·exact Or.inr ht
  ·rintro ⟨e',t,he',ht,hg⟩
   rw [he] at he'
   cases he'
   refine ⟨t,?_,hg⟩
   rcases ht with ht|ht
   ·exact Or.inl ((m t).2 ht)
   ·exact Or.inr ht
theorem out_mean {sc:List Int} {code:List In} {bs:List Nat} {live found:Int} {L:List Evt} (hI:Inb code) (hb:∀b∈bs,b+1<code.length)
  (hok:∀i e,L[i]? = some e→(feedS sc code bs live found (runS sc code bs live found ⟨[],0,0,false⟩ (L.take i)) e).2.2=0) (i:Nat) (e:Evt) (he:L[i]? = some e) :
  ∃El:List Thr,(feedS sc code bs live found (runS sc code bs live found ⟨[],0,0,false⟩ (L.take i)) e).2.1=El.map (fun t=>matchT t i)∧Srt El∧∀u,u∈El↔Et code bs L i u:=by
 obtain ⟨c,s,m⟩:=run_mean hI hb hok i (Nat.le_of_lt (List.getElem?_eq_some_iff.1 he).1)
 obtain ⟨o1,o2,f1,f2,f3⟩:=feed_ok (hok i e he)
 rw [c] at o1 o2 f3
 have hat:=fun t ht=>wt_at hI hb (L:=L) i t ((m t).1 ht)
 obtain ⟨_,g2⟩:=step_iff hI (fun t ht=>(hat t ht).1) hb o1 o2
 obtain ⟨_,s2⟩:=step_srt (code:=code) (bs:=bs) (live:=live) (found:=found) he (fun t ht=>(hat t ht).2)
 refine ⟨_,f3,s2.1,fun u => ?_⟩
 rw [g2]
 constructor
 ·rintro ⟨t,ht,hg⟩
  refine ⟨e,t,he,?_,hg⟩
  rcases ht with ht|ht
  ·exact Or.inl ((m t).1 ht)
  ·exact Or.inr ht
 ·rintro ⟨e',t,he',ht,hg⟩
  rw [he] at he'
  cases he'
  refine ⟨t,?_,hg⟩
  rcases ht with ht|ht
  ·exact Or.inl ((m t).2 ht)
  ·exact Or.inr ht
theorem et_tru {code:List In} (hI:Inb code) {bs:List Nat} (hb:∀b∈bs,b+1<code.length) {L:List Evt} {i:Nat} {u:Thr} (h:Et code bs L i u):Tru L u:=by
 obtain ⟨e,t,he,ht,hg⟩:=h
 obtain ⟨x,hx,hk,a,an,y,hr,hy,ho,rfl⟩:=hg
 refine thread_tru he ?_ _ _
 rcases ht with ht|⟨b,_,rfl⟩
 ·exact (wt_at hI hb i t ht).2
 ·exact new_tru he _
deriving instance DecidableEq for Tm
deriving instance DecidableEq for Tst
def nxP (tv:Tst→Bool) (x:In) (a:Int):List Int :=
 if x.op=2 then (if tv x.test=true then [a+1] else []) else if x.op=4 then [x.a] else if x.op=5 then [x.a,x.b] else []
inductive Cl (code:List In) (tv:Tst→Bool) (p:Int):Int→Prop
 | zero:Cl code tv p (p+1)
 | next {a:Int} {x:In} {b:Int}:Cl code tv p a→code[a.toNat]? = some x→b∈nxP tv x a→Cl code tv p b
theorem outS_get (sc:List Int) (l:List In) (bs:List Nat) (live found:Int):∀(L:List Evt) (r:Rst) (i:Nat) (e:Evt),L[i]? = some e→(outS sc l bs live found r L)[i]? = some (feedS sc l bs live found (runS sc l bs live found r (L.take i)) e).2.1:=by
 intro L
 induction L with
 | nil=>intro r i e h;simp at h
 | cons x L ih =>
  intro r i e h
  cases i with
  | zero=>simp at h;subst h;rfl
  | succ i=>exact ih (feedS sc l bs live found r x).1 i e (by simpa using h)
theorem isTk_is {c:List In} {b:Nat} (h:isTk c b=true):∃x,c[b]? = some x∧x.op=0:=by
 unfold isTk at h
 split at h
 ·rename_i x hx;exact ⟨x,hx,by simpa using h⟩
 ·cases h
def shN (k:Nat) (m:Nmb):Nmb:=⟨if m.n<0 then m.n else m.n+k,m.e⟩
def shT (k:Nat) (t:Thr):Thr:=⟨t.at',t.first+k,t.began,shN k t.h0,shN k t.h1,shN k t.h2,shN k t.h3⟩
theorem shT_hd (k:Nat) (t:Thr) (i:Nat):(shT k t).hd i=shN k (t.hd i):=by
 match i with
 | 0=>rfl
 | 1=>rfl
 | 2=>rfl
 | (i+3)=>rfl
theorem sh_held (k i:Nat) (e:Evt) (t:Thr) (p:Int) (an:Nat):heldS ⟨((k+i:Nat):Int),e⟩ (shT k t) p an=shN k (heldS ⟨(i:Int),e⟩ t p an):=by
 unfold heldS
 split
 ·unfold shN
  simp only
  rw [if_neg (by omega)]
  congr 1
  omega
 split
 ·rfl
 ·exact shT_hd k t _
theorem sh_thread (k i:Nat) (e:Evt) (t:Thr) (a:Int) (an:Nat):threadS ⟨((k+i:Nat):Int),e⟩ (shT k t) a an=shT k (threadS ⟨(i:Int),e⟩ t a an):=by
 unfold threadS
 rw [sh_held,sh_held,sh_held,sh_held]
 rfl
theorem shN_none {k:Nat} {m:Nmb} (h:m.n = -1∨0≤m.n):((shN k m).n = -1↔m.n = -1):=by
 unfold shN
 simp only
 split <;> omega
theorem tru_n {L:List Evt} {a:Nmb} (h:a=nmb0∨∃n:Nat,a.n=n∧L[n]? = some a.e):a.n = -1∨0≤a.n:=by
 rcases h with rfl|⟨n,h,_⟩
 ·exact Or.inl rfl
 ·exact Or.inr (by omega)
theorem sh_val {L:List Evt} {t:Thr} (ht:Tru L t) {i:Nat} {e:Evt} (he:L[i]? = some e) (k:Nat) (an:Nat) (x:Tm):valS ⟨((k+i:Nat):Int),e⟩ (shT k t) an x=valS ⟨(i:Int),e⟩ t an x:=by
 unfold valS
 split
 ·rfl
 split
 ·rfl
 ·rw [sh_held]
  have hn:=shN_none (k:=k) (tru_n (held_tru he ht (x.of - 2) an))
  generalize heldS ⟨(i:Int),e⟩ t (x.of - 2) an=m at *
  have e1:(shN k m).e=m.e:=rfl
  rw [e1,decide_eq_decide.2 (not_congr hn)]
theorem sh_so {L:List Evt} {t:Thr} (ht:Tru L t) {i:Nat} {e:Evt} (he:L[i]? = some e) (k:Nat) (an:Nat) (x:Tst):soS ⟨((k+i:Nat):Int),e⟩ (shT k t) an x=soS ⟨(i:Int),e⟩ t an x:=by
 unfold soS rsideS
 rw [sh_val ht he,sh_val ht he,sh_val ht he]
theorem sh_nx {L:List Evt} {t:Thr} (ht:Tru L t) {i:Nat} {e:Evt} (he:L[i]? = some e) (k:Nat) (x:In) (a:Int) (an:Nat):nxS ⟨((k+i:Nat):Int),e⟩ (shT k t) x a an=nxS ⟨(i:Int),e⟩ t x a an:=by
 unfold nxS
 rw [sh_so ht he]
 rfl
theorem sh_rc {code:List In} {L:List Evt} {t:Thr} (ht:Tru L t) {i:Nat} {e:Evt} (he:L[i]? = some e) (k:Nat) {a:Int} {an:Nat}:RcT code ⟨((k+i:Nat):Int),e⟩ (shT k t) a an↔RcT code ⟨(i:Int),e⟩ t a an:=by
 constructor
 ·intro h
  induction h with
  | zero=>exact .zero
  | next h1 h2 h3 ih =>
   rw [sh_nx ht he] at h3
   exact .next ih h2 h3
 ·intro h
  induction h with
  | zero=>exact .zero
  | next h1 h2 h3 ih =>
   rw [←sh_nx ht he k] at h3
   exact .next ih h2 h3
theorem sh_goW {code:List In} {L:List Evt} {t:Thr} (ht:Tru L t) {i:Nat} {e:Evt} (he:L[i]? = some e) (k:Nat) {u:Thr}:GoW code ⟨((k+i:Nat):Int),e⟩ (shT k t) u↔∃v,GoW code ⟨(i:Int),e⟩ t v∧u=shT k v:=by
 constructor
 ·rintro ⟨x,hx,hk,a,an,y,hr,hy,ho,rfl⟩
  exact ⟨_,⟨x,hx,hk,a,an,y,(sh_rc ht he k).1 hr,hy,ho,rfl⟩,sh_thread _ _ _ _ _ _⟩
 ·rintro ⟨v,⟨x,hx,hk,a,an,y,hr,hy,ho,rfl⟩,rfl⟩
  exact ⟨x,hx,hk,a,an,y,(sh_rc ht he k).2 hr,hy,ho,(sh_thread _ _ _ _ _ _).symm⟩
theorem sh_goE {code:List In} {L:List Evt} {t:Thr} (ht:Tru L t) {i:Nat} {e:Evt} (he:L[i]? = some e) (k:Nat) {u:Thr}:GoE code ⟨((k+i:Nat):Int),e⟩ (shT k t) u↔∃v,GoE code ⟨(i:Int),e⟩ t v∧u=shT k v:=by
 constructor
 ·rintro ⟨x,hx,hk,a,an,y,hr,hy,ho,rfl⟩
  exact ⟨_,⟨x,hx,hk,a,an,y,(sh_rc ht he k).1 hr,hy,ho,rfl⟩,sh_thread _ _ _ _ _ _⟩
 ·rintro ⟨v,⟨x,hx,hk,a,an,y,hr,hy,ho,rfl⟩,rfl⟩
  exact ⟨x,hx,hk,a,an,y,(sh_rc ht he k).2 hr,hy,ho,(sh_thread _ _ _ _ _ _).symm⟩
theorem goW_first {code:List In} {hand:Nmb} {t u:Thr} (h:GoW code hand t u):u.first=t.first:=by
 obtain ⟨x,hx,hk,a,an,y,hr,hy,ho,rfl⟩:=h
 rfl
theorem goE_first {code:List In} {hand:Nmb} {t u:Thr} (h:GoE code hand t u):u.first=t.first:=by
 obtain ⟨x,hx,hk,a,an,y,hr,hy,ho,rfl⟩:=h
 rfl
theorem wt_first {code:List In} {bs:List Nat} {L:List Evt}:∀(i:Nat) (u:Thr),Wt code bs L i u→u.first<i:=by
 intro i
 induction i with
 | zero=>intro u h;exact h.elim
 | succ i ih =>
  rintro u ⟨e,t,he,ht,hg⟩
  rw [goW_first hg]
  rcases ht with ht|⟨b,_,rfl⟩
  ·have:=ih t ht;omega
  ·show (i:Int)<_;omega
theorem sh_new (k i:Nat) (e:Evt) (b:Int):newT b ⟨((k+i:Nat):Int),e⟩=shT k (newT b ⟨(i:Int),e⟩):=by
 unfold newT shT shN
 simp [nmb0]
 omega
theorem sh_on {code:List In} {bs:List Nat} {L:List Evt} {k i:Nat} {e:Evt} (ih:∀u,(Wt code bs L (k+i) u∧(k:Int)≤u.first)↔∃v,Wt code bs (L.drop k) i v∧u=shT k v) (t:Thr) :
  ((Wt code bs L (k+i) t∨∃b∈bs,t=newT (b:Int) ⟨((k+i:Nat):Int),e⟩)∧(k:Int)≤t.first)↔∃s,(Wt code bs (L.drop k) i s∨∃b∈bs,s=newT (b:Int) ⟨(i:Int),e⟩)∧t=shT k s:=by
 constructor
 ·rintro ⟨ht|⟨b,hb,rfl⟩,hf⟩
  ·obtain ⟨v,hv,rfl⟩:=(ih t).1 ⟨ht,hf⟩
   exact ⟨v,Or.inl hv,rfl⟩
  ·exact ⟨_,Or.inr ⟨b,hb,rfl⟩,sh_new k i e b⟩
 ·rintro ⟨s,hs|⟨b,hb,rfl⟩,rfl⟩
  ·obtain ⟨h1,h2⟩:=(ih (shT k s)).2 ⟨s,hs,rfl⟩
   exact ⟨Or.inl h1,h2⟩
  ·exact ⟨Or.inr ⟨b,hb,(sh_new k i e b).symm⟩,by show (k:Int)≤(i:Int)+k;omega⟩
theorem wt_sh {code:List In} (hI:Inb code) {bs:List Nat} (hb:∀b∈bs,b+1<code.length) {L:List Evt} {k:Nat}:∀(i:Nat) (u:Thr),(Wt code bs L (k+i) u∧(k:Int)≤u.first)↔∃v,Wt code bs (L.drop k) i v∧u=shT k v:=by
 intro i
 induction i with
 | zero =>
  intro u
  constructor
  ·rintro ⟨h,hf⟩
   have:=wt_first k u h
   omega
  ·rintro ⟨v,hv,_⟩
   exact hv.elim
 | succ i ih =>
  intro u
  have hd:∀e,(L.drop k)[i]? = some e↔L[k+i]? = some e:=fun e=>by rw [List.getElem?_drop]
  constructor
  ·rintro ⟨⟨e,t,he,ht,hg⟩,hf⟩
   obtain ⟨s,hs,rfl⟩:=(sh_on (e:=e) ih t).1 ⟨ht,by rw [←goW_first hg];exact hf⟩
   have hts:Tru (L.drop k) s:=by
    rcases hs with hs|⟨b,_,rfl⟩
    ·exact (wt_at hI hb i s hs).2
    ·exact new_tru ((hd e).2 he) _
   obtain ⟨v,hv,rfl⟩:=(sh_goW hts ((hd e).2 he) k).1 hg
   exact ⟨v,⟨e,s,(hd e).2 he,hs,hv⟩,rfl⟩
  ·rintro ⟨v,⟨e,s,he,hs,hv⟩,rfl⟩
   have hts:Tru (L.drop k) s:=by
    rcases hs with hs|⟨b,_,rfl⟩
    ·exact (wt_at hI hb i s hs).2
    ·exact new_tru he _
   obtain ⟨h1,h2⟩:=(sh_on (e:=e) ih (shT k s)).2 ⟨s,hs,rfl⟩
   have hg:=(sh_goW hts he k).2 ⟨v,hv,rfl⟩
   exact ⟨⟨e,shT k s,(hd e).1 he,h1,hg⟩,by rw [goW_first hg];exact h2⟩
theorem et_sh {code:List In} (hI:Inb code) {bs:List Nat} (hb:∀b∈bs,b+1<code.length) {L:List Evt} {k i:Nat} (u:Thr):(Et code bs L (k+i) u∧(k:Int)≤u.first)↔∃v,Et code bs (L.drop k) i v∧u=shT k v:=by
 have hd:∀e,(L.drop k)[i]? = some e↔L[k+i]? = some e:=fun e=>by rw [List.getElem?_drop]
 have ih:=wt_sh hI hb (L:=L) (k:=k) i
 constructor
 ·rintro ⟨⟨e,t,he,ht,hg⟩,hf⟩
  obtain ⟨s,hs,rfl⟩:=(sh_on (e:=e) ih t).1 ⟨ht,by rw [←goE_first hg];exact hf⟩
  have hts:Tru (L.drop k) s:=by
   rcases hs with hs|⟨b,_,rfl⟩
   ·exact (wt_at hI hb i s hs).2
   ·exact new_tru ((hd e).2 he) _
  obtain ⟨v,hv,rfl⟩:=(sh_goE hts ((hd e).2 he) k).1 hg
  exact ⟨v,⟨e,s,(hd e).2 he,hs,hv⟩,rfl⟩
 ·rintro ⟨v,⟨e,s,he,hs,hv⟩,rfl⟩
  have hts:Tru (L.drop k) s:=by
   rcases hs with hs|⟨b,_,rfl⟩
   ·exact (wt_at hI hb i s hs).2
   ·exact new_tru he _
  obtain ⟨h1,h2⟩:=(sh_on (e:=e) ih (shT k s)).2 ⟨s,hs,rfl⟩
  have hg:=(sh_goE hts he k).2 ⟨v,hv,rfl⟩
  exact ⟨⟨e,shT k s,(hd e).1 he,h1,hg⟩,by rw [goE_first hg];exact h2⟩
theorem shN_mono {k:Nat} {a b:Nmb} (ha:a.n = -1∨0≤a.n) (hb:b.n = -1∨0≤b.n):(a.n<b.n→(shN k a).n<(shN k b).n)∧(a.n=b.n→(shN k a).n=(shN k b).n):=by
 unfold shN
 simp only
 split <;> split <;> omega
theorem sh_ahead {L:List Evt} {a b:Thr} (ha:Tru L a) (hb:Tru L b) {k:Nat} (h:aheadB a b=true):aheadB (shT k a) (shT k b)=true:=by
 have c0:=shN_mono (k:=k) (tru_n (ha.h 0)) (tru_n (hb.h 0))
 have c1:=shN_mono (k:=k) (tru_n (ha.h 1)) (tru_n (hb.h 1))
 have c2:=shN_mono (k:=k) (tru_n (ha.h 2)) (tru_n (hb.h 2))
 have c3:=shN_mono (k:=k) (tru_n (ha.h 3)) (tru_n (hb.h 3))
 simp only [Thr.hd] at c0 c1 c2 c3
 rw [ahead_iff] at h ⊢
 show (a.first+k<b.first+k∨(a.first+k=b.first+k∧((shN k a.h0).n<(shN k b.h0).n∨((shN k a.h0).n=(shN k b.h0).n∧((shN k a.h1).n<(shN k b.h1).n∨((shN k a.h1).n=(shN k b.h1).n∧((shN k a.h2).n<(shN k b.h2).n∨((shN k a.h2).n=(shN k b.h2).n∧((shN k a.h3).n<(shN k b.h3).n∨((shN k a.h3).n=(shN k b.h3).n∧a.at'<b.at'))))))))))
 rcases h with h|⟨h0,h⟩
 ·left;clear c0 c1 c2 c3;omega
 right;refine ⟨by rw [h0],?_⟩
 rcases h with h|⟨h0,h⟩
 ·exact Or.inl (c0.1 h)
 right;refine ⟨c0.2 h0,?_⟩
 rcases h with h|⟨h0,h⟩
 ·exact Or.inl (c1.1 h)
 right;refine ⟨c1.2 h0,?_⟩
 rcases h with h|⟨h0,h⟩
 ·exact Or.inl (c2.1 h)
 right;refine ⟨c2.2 h0,?_⟩
 rcases h with h|⟨h0,h⟩
 ·exact Or.inl (c3.1 h)
 right;exact ⟨c3.2 h0,h⟩
def mvI (n:Int) (k:Nat):Int:=if n<0 then n else n+k
def mvM (k:Nat) (m:Mt):Mt:=⟨m.first+k,m.last+k,mvI m.h0 k,mvI m.h1 k,mvI m.h2 k,mvI m.h3 k⟩
theorem match_sh (k i:Nat) (t:Thr):matchT (shT k t) ((k+i:Nat):Int)=mvM k (matchT t (i:Int)):=by
 unfold matchT mvM
 simp only [Mt.mk.injEq]
 refine ⟨rfl,by omega,rfl,rfl,rfl,rfl⟩
theorem apart_out {sc:List Int} {code:List In} {bs:List Nat} {live found:Int} {L:List Evt} {k:Nat} (hI:Inb code) (hb:∀b∈bs,b+1<code.length)
  (hok:∀i e,L[i]? = some e→(feedS sc code bs live found (runS sc code bs live found ⟨[],0,0,false⟩ (L.take i)) e).2.2=0)
  (hok2:∀i e,(L.drop k)[i]? = some e→(feedS sc code bs live found (runS sc code bs live found ⟨[],0,0,false⟩ ((L.drop k).take i)) e).2.2=0)
  (i:Nat) (e:Evt) (he:L[k+i]? = some e) :
  ((feedS sc code bs live found (runS sc code bs live found ⟨[],0,0,false⟩ (L.take (k+i))) e).2.1.filter fun m=>decide ((k:Int)≤m.first))=((feedS sc code bs live found (runS sc code bs live found ⟨[],0,0,false⟩ ((L.drop k).take i)) e).2.1.map (mvM k)):=by
 have hd:(L.drop k)[i]? = some e:=by rw [List.getElem?_drop];exact he
 obtain ⟨E,h1,h2,h3⟩:=out_mean hI hb hok (k+i) e he
 obtain ⟨E0,g1,g2,g3⟩:=out_mean hI hb hok2 i e hd
 rw [h1,g1,List.filter_map,List.map_map]
 have hs:E.filter (fun t=>decide ((k:Int)≤t.first))=E0.map (shT k):=by
  refine Srt.eq (List.Pairwise.filter _ h2) ?_ ?_
  ·show (E0.map (shT k)).Pairwise _
   rw [List.pairwise_map]
   refine List.Pairwise.imp_of_mem ?_ g2
   intro a b ha hb2 hab
   exact sh_ahead (et_tru hI hb ((g3 a).1 ha)) (et_tru hI hb ((g3 b).1 hb2)) hab
  ·intro u
   rw [List.mem_filter,h3,decide_eq_true_eq,et_sh hI hb u,List.mem_map]
   constructor
   ·rintro ⟨v,hv,rfl⟩;exact ⟨v,(g3 v).2 hv,rfl⟩
   ·rintro ⟨v,hv,rfl⟩;exact ⟨v,(g3 v).1 hv,rfl⟩
 have e1:((fun m:Mt=>decide ((k:Int)≤m.first)) ∘ fun t=>matchT t ((k+i:Nat):Int))=fun t=>decide ((k:Int)≤t.first):=rfl
 rw [e1,hs,List.map_map]
 refine List.map_congr_left ?_
 intro t _
 exact match_sh k i t
end Go.Proofs.YtcboiapggnmpfabGreat
