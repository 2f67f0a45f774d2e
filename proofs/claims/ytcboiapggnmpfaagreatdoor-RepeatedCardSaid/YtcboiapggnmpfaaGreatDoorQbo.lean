import Derived.Test.YtcboiapggnmpfaaGreatDoorQbn
namespace Go.Proofs.YtcboiapggnmpfaaGreatDoor
set_option linter.unusedSimpArgs false
set_option linter.unusedVariables false
open Go.RowKit
theorem ahead_iff (t o:Thr):aheadB t o=true↔(t.first<o.first∨(t.first=o.first∧(t.h0.n<o.h0.n∨(t.h0.n=o.h0.n∧(t.h1.n<o.h1.n∨(t.h1.n=o.h1.n∧(t.h2.n<o.h2.n∨(t.h2.n=o.h2.n∧(t.h3.n<o.h3.n∨(t.h3.n=o.h3.n∧t.at'<o.at')))))))))):=by
 unfold aheadB
 simp only [aheadF,Thr.hd]
 split
 ·split
  ·split
   ·split
    ·split
     ·simp only [decide_eq_true_eq];omega
     ·simp only [decide_eq_true_eq];omega
    ·simp only [decide_eq_true_eq];omega
   ·simp only [decide_eq_true_eq];omega
  ·simp only [decide_eq_true_eq];omega
 ·simp only [decide_eq_true_eq];omega
theorem ahead_trans {a b c:Thr} (h1:aheadB a b=true) (h2:aheadB b c=true):aheadB a c=true:=by
 rw [ahead_iff] at *;omega
theorem ahead_irr {a:Thr}:¬aheadB a a=true:=by
 rw [ahead_iff];omega
theorem ahead_asym {a b:Thr} (h1:aheadB a b=true):¬aheadB b a=true:=fun h2=>ahead_irr (ahead_trans h1 h2)
def Srt (l:List Thr):Prop:=l.Pairwise (fun a b=>aheadB a b=true)
theorem Srt.at {l:List Thr} (h:Srt l) {i j:Nat} {a b:Thr} (hij:i<j) (ha:l[i]? = some a) (hb:l[j]? = some b):aheadB a b=true:=by
 obtain ⟨h1,rfl⟩:=List.getElem?_eq_some_iff.1 ha
 obtain ⟨h2,rfl⟩:=List.getElem?_eq_some_iff.1 hb
 exact (List.pairwise_iff_getElem.1 h) i j h1 h2 hij
theorem Srt.eq:∀ {l l':List Thr},Srt l→Srt l'→(∀u,u∈l↔u∈l')→l=l':=by
 intro l
 induction l with
 | nil =>
  intro l' _ _ h
  cases l' with
  | nil=>rfl
  | cons b r=>exact absurd ((h b).2 List.mem_cons_self) (by simp)
 | cons a r ih =>
  intro l' h1 h2 h
  cases l' with
  | nil=>exact absurd ((h a).1 List.mem_cons_self) (by simp)
  | cons b r' =>
   have p1:=List.pairwise_cons.1 h1
   have p2:=List.pairwise_cons.1 h2
   have hab:a=b:=by
    rcases List.mem_cons.1 ((h a).1 List.mem_cons_self) with e|e
    ·exact e
    ·rcases List.mem_cons.1 ((h b).2 List.mem_cons_self) with e2|e2
     ·exact e2.symm
     ·exact absurd (p1.1 b e2) (ahead_asym (p2.1 a e))
   subst hab
   rw [ih p1.2 p2.2]
   intro u
   constructor
   ·intro hu
    rcases List.mem_cons.1 ((h u).1 (List.mem_cons_of_mem _ hu)) with e|e
    ·subst e;exact absurd (p1.1 _ hu) ahead_irr
    ·exact e
   ·intro hu
    rcases List.mem_cons.1 ((h u).2 (List.mem_cons_of_mem _ hu)) with e|e
    ·subst e;exact absurd (p2.1 _ hu) ahead_irr
    ·exact e
theorem plcFT_spec {l:List Thr} {t:Thr} (hs:Srt l):∀(m lo hi:Nat),lo≤hi→hi≤l.length→hi - lo≤m→(∀i u,i<lo→l[i]? = some u→aheadB u t=true)→(∀i u,hi≤i→l[i]? = some u→¬aheadB u t=true) →
  (∀i u,i<plcFT l t m lo hi→l[i]? = some u→aheadB u t=true)∧(∀i u,plcFT l t m lo hi≤i→l[i]? = some u→¬aheadB u t=true):=by
 intro m
 induction m with
 | zero =>
  intro lo hi h1 h2 h3 ha hb
  unfold plcFT
  exact ⟨ha,fun i u hi2 hu=>hb i u (by omega) hu⟩
 | succ m ih =>
  intro lo hi h1 h2 h3 ha hb
  unfold plcFT
  by_cases hlt:lo<hi
  ·rw [if_pos hlt]
   have hm1:lo+(hi - lo) / 2<hi:=by omega
   obtain ⟨v,hv⟩:∃v,l[lo+(hi - lo) / 2]? = some v:=⟨l[lo+(hi - lo) / 2]'(by omega),by simp⟩
   rw [hv]
   simp only
   split
   ·rename_i hav
    refine ih _ _ (by omega) h2 (by omega) ?_ hb
    intro i u hi2 hu
    by_cases e:i=lo+(hi - lo) / 2
    ·subst e;rw [hv] at hu;cases hu;exact hav
    ·exact ahead_trans (hs.at (by omega) hu hv) hav
   ·rename_i hav
    refine ih _ _ (by omega) (by omega) (by omega) ha ?_
    intro i u hi2 hu hau
    by_cases e:i=lo+(hi - lo) / 2
    ·subst e;rw [hv] at hu;cases hu;exact hav hau
    ·exact hav (ahead_trans (hs.at (by omega) hv hu) hau)
  ·rw [if_neg hlt]
   exact ⟨ha,fun i u hi2 hu=>hb i u (by omega) hu⟩
theorem plcT_spec {l:List Thr} {t:Thr} (hs:Srt l):(∀i u,i<plcT l t→l[i]? = some u→aheadB u t=true)∧(∀i u,plcT l t≤i→l[i]? = some u→¬aheadB u t=true) :=
 plcFT_spec hs _ _ _ (by omega) (by omega) (by omega) (fun i u h=>by omega) (fun i u h hu=>by have:=(List.getElem?_eq_some_iff.1 hu).1;omega)
theorem addC_srt {c:Crw} {t:Thr} (hs:Srt c.l) (hk:∀u∈c.l,u=t∨aheadB u t=true∨aheadB t u=true):Srt (addC c t).l:=by
 obtain ⟨h1,h2⟩:=plcT_spec (t:=t) hs
 unfold addC
 split
 ·exact hs
 split
 ·exact hs
 ·rename_i e1 e2
  show Srt (c.l.take (plcT c.l t)++t::c.l.drop (plcT c.l t))
  have hle:=plcT_le c.l t
  have hA:∀u∈c.l.take (plcT c.l t),aheadB u t=true:=by
   intro u hu
   obtain ⟨i,hi⟩:=List.mem_iff_getElem?.1 hu
   rw [List.getElem?_take] at hi
   split at hi
   ·exact h1 i u (by omega) hi
   ·cases hi
  have hB:∀u∈c.l.drop (plcT c.l t),aheadB t u=true:=by
   intro u hu
   obtain ⟨i,hi⟩:=List.mem_iff_getElem?.1 hu
   rw [List.getElem?_drop] at hi
   have hna:=h2 _ u (by omega) hi
   rcases hk u (List.mem_of_mem_drop hu) with e|e|e
   ·subst e
    exfalso
    by_cases ei:i=0
    ·subst ei;exact e1 (by simpa using hi)
    ·obtain ⟨v,hv⟩:∃v,c.l[plcT c.l u]? = some v:=⟨c.l[plcT c.l u]'(by have:=(List.getElem?_eq_some_iff.1 hi).1;omega),by simp⟩
     exact h2 _ v (by omega) hv (hs.at (by omega) hv hi)
   ·exact absurd e hna
   ·exact e
  refine List.pairwise_append.2 ⟨List.Pairwise.sublist (List.take_sublist _ _) hs,List.pairwise_cons.2 ⟨hB,List.Pairwise.sublist (List.drop_sublist _ _) hs⟩,?_⟩
  intro a ha b hb
  rcases List.mem_cons.1 hb with e|e
  ·subst e;exact hA a ha
  ·exact ahead_trans (hA a ha) (hB b e)
structure Tru (L:List Evt) (t:Thr):Prop where
 f:∃(n:Nat) (e:Evt),t.first=n∧L[n]? = some e∧t.began=e.at'
 h:∀k,t.hd k=nmb0∨∃n:Nat,(t.hd k).n=n∧L[n]? = some (t.hd k).e
theorem nmb_tri {L:List Evt} {a b:Nmb} (ha:a=nmb0∨∃n:Nat,a.n=n∧L[n]? = some a.e) (hb:b=nmb0∨∃n:Nat,b.n=n∧L[n]? = some b.e) (h:a.n=b.n):a=b:=by
 obtain ⟨an,ae⟩:=a
 obtain ⟨bn,be⟩:=b
 simp only [nmb0,Nmb.mk.injEq] at *
 subst h
 rcases ha with ⟨h1,rfl⟩ | ⟨n,h1,h2⟩ <;> rcases hb with ⟨h3,rfl⟩ | ⟨m,h3,h4⟩
 ·exact ⟨rfl,rfl⟩
 ·omega
 ·omega
 ·have:n=m:=by omega
  subst this
  rw [h2] at h4
  cases h4
  exact ⟨rfl,rfl⟩
theorem Tru.tri {L:List Evt} {u t:Thr} (hu:Tru L u) (ht:Tru L t):u=t∨aheadB u t=true∨aheadB t u=true:=by
 by_cases h1:aheadB u t=true
 ·exact Or.inr (Or.inl h1)
 by_cases h2:aheadB t u=true
 ·exact Or.inr (Or.inr h2)
 left
 rw [ahead_iff] at h1 h2
 have e0:u.first=t.first:=by omega
 have e1:u.h0.n=t.h0.n:=by omega
 have e2:u.h1.n=t.h1.n:=by omega
 have e3:u.h2.n=t.h2.n:=by omega
 have e4:u.h3.n=t.h3.n:=by omega
 have e5:u.at'=t.at':=by omega
 have f0:=nmb_tri (hu.h 0) (ht.h 0) e1
 have f1:=nmb_tri (hu.h 1) (ht.h 1) e2
 have f2:=nmb_tri (hu.h 2) (ht.h 2) e3
 have f3:=nmb_tri (hu.h 3) (ht.h 3) e4
 have e6:u.began=t.began:=by
  obtain ⟨n,e,a1,a2,a3⟩:=hu.f
  obtain ⟨m,e',b1,b2,b3⟩:=ht.f
  have:n=m:=by omega
  subst this
  rw [a2] at b2
  cases b2
  rw [a3,b3]
 cases u;cases t
 simp only [Thr.hd] at *
 simp_all
theorem held_tru {L:List Evt} {i:Nat} {e:Evt} (he:L[i]? = some e) {t:Thr} (ht:Tru L t) (p:Int) (an:Nat):heldS ⟨i,e⟩ t p an=nmb0∨∃n:Nat,(heldS ⟨i,e⟩ t p an).n=n∧L[n]? = some (heldS ⟨i,e⟩ t p an).e:=by
 unfold heldS
 split
 ·exact Or.inr ⟨i,rfl,he⟩
 split
 ·exact Or.inl rfl
 ·exact ht.h _
theorem thread_tru {L:List Evt} {i:Nat} {e:Evt} (he:L[i]? = some e) {t:Thr} (ht:Tru L t) (a:Int) (an:Nat):Tru L (threadS ⟨i,e⟩ t a an):=by
 refine ⟨ht.f,?_⟩
 intro k
 match k with
 | 0=>exact held_tru he ht 0 an
 | 1=>exact held_tru he ht 1 an
 | 2=>exact held_tru he ht 2 an
 | (k+3)=>exact held_tru he ht 3 an
theorem new_tru {L:List Evt} {i:Nat} {e:Evt} (he:L[i]? = some e) (a:Int):Tru L (newT a ⟨i,e⟩):=by
 refine ⟨⟨i,e,rfl,he,rfl⟩,?_⟩
 intro k
 left
 match k with
 | 0=>rfl
 | 1=>rfl
 | 2=>rfl
 | (k+3)=>rfl
def SrtC (L:List Evt) (c:Crw):Prop:=Srt c.l∧∀u∈c.l,Tru L u
theorem addC_sub {c:Crw} {t u:Thr} (h:u∈(addC c t).l):u∈c.l∨u=t:=by
 unfold addC at h
 split at h
 ·exact Or.inl h
 ·split at h
  ·exact Or.inl h
  ·rcases List.mem_append.1 h with e|e
   ·exact Or.inl (List.mem_of_mem_take e)
   ·rcases List.mem_cons.1 e with e|e
    ·exact Or.inr e
    ·exact Or.inl (List.mem_of_mem_drop e)
theorem SrtC.add {L:List Evt} {c:Crw} {t:Thr} (h:SrtC L c) (ht:Tru L t):SrtC L (addC c t):=by
 refine ⟨addC_srt h.1 (fun u hu=>(h.2 u hu).tri ht),?_⟩
 intro u hu
 rcases addC_sub hu with h1|h1
 ·exact h.2 u h1
 ·subst h1;exact ht
theorem lv_srt {L:List Evt} {hand:Nmb} {t:Thr} (ht:∀a an,Tru L (threadS hand t a an)) (s:Tn) (a:Int) (an:Nat) (x:In) (h:SrtC L s.wait∧SrtC L s.ended):SrtC L (lvS hand t s a an x).wait∧SrtC L (lvS hand t s a an x).ended:=by
 have hr:∀(s:Tn) z (n:Nat),(rchS s z n).wait=s.wait∧(rchS s z n).ended=s.ended:=rchS_wait
 unfold lvS
 split
 ·exact ⟨h.1.add (ht _ _),h.2⟩
 split
 ·split
  ·rw [(hr _ _ _).1,(hr _ _ _).2];exact h
  ·exact h
 split
 ·split
  ·rw [(hr _ _ _).1,(hr _ _ _).2];exact h
  ·exact h
 split
 ·rw [(hr _ _ _).1,(hr _ _ _).2];exact h
 split
 ·rw [(hr _ _ _).1,(hr _ _ _).2];exact h
 split
 ·rw [(hr _ _ _).1,(hr _ _ _).2,(hr _ _ _).1,(hr _ _ _).2];exact h
 split
 ·exact ⟨h.1,h.2.add (ht _ _)⟩
 ·exact h
theorem goF_srt {L:List Evt} {code:List In} {hand:Nmb} {t:Thr} (ht:∀a an,Tru L (threadS hand t a an)):∀(m:Nat) (s:Tn),(SrtC L s.wait∧SrtC L s.ended)→SrtC L (goF code hand t m s).wait∧SrtC L (goF code hand t m s).ended:=by
 intro m
 induction m with
 | zero=>intro s h;exact h
 | succ m ih =>
  intro s h
  unfold goF
  split
  ·exact h
  split
  ·exact h
  split
  ·exact h
  ·exact ih _ (lv_srt ht _ _ _ _ h)
theorem goOn_srt {L:List Evt} {code:List In} {hand:Nmb} {t:Thr} (ht:∀a an,Tru L (threadS hand t a an)) (c:Crw×Crw) (h:SrtC L c.1∧SrtC L c.2):SrtC L (goOnS code hand c t).1∧SrtC L (goOnS code hand c t).2:=by
 unfold goOnS
 split
 ·exact h
 split
 ·exact goF_srt ht _ _ (by rw [(rchS_wait _ _ _).1,(rchS_wait _ _ _).2];exact h)
 ·exact h
theorem fold_srt {L:List Evt} {code:List In} {hand:Nmb}:∀(ts:List Thr) (c:Crw×Crw),(∀t∈ts,∀a an,Tru L (threadS hand t a an))→(SrtC L c.1∧SrtC L c.2)→SrtC L (ts.foldl (goOnS code hand) c).1∧SrtC L (ts.foldl (goOnS code hand) c).2:=by
 intro ts
 induction ts with
 | nil=>intro c _ h;exact h
 | cons t r ih =>
  intro c ht h
  exact ih _ (fun u hu=>ht u (List.mem_cons_of_mem _ hu)) (goOn_srt (ht t List.mem_cons_self) c h)
theorem step_srt {L:List Evt} {code:List In} {i:Nat} {e:Evt} (he:L[i]? = some e) {ws:List Thr} {bs:List Nat} {live found:Int} (hw:∀t∈ws,Tru L t):SrtC L (stepS code ⟨i,e⟩ ws bs live found).1∧SrtC L (stepS code ⟨i,e⟩ ws bs live found).2:=by
 unfold stepS
 refine fold_srt _ _ ?_ (fold_srt _ _ (fun t ht a an=>thread_tru he (hw t ht) a an) ⟨⟨List.Pairwise.nil,by simp⟩,⟨List.Pairwise.nil,by simp⟩⟩)
 intro t ht a an
 obtain ⟨b,_,rfl⟩:=List.mem_map.1 ht
 exact thread_tru he (new_tru he _) a an
def Wt (code:List In) (bs:List Nat) (L:List Evt):Nat→Thr→Prop
 | 0,_=>False
 | i+1,u=>∃e t,L[i]? = some e∧(Wt code bs L i t∨∃b∈bs,t=newT (b:Int) ⟨i,e⟩)∧GoW code ⟨i,e⟩ t u
def Et (code:List In) (bs:List Nat) (L:List Evt) (i:Nat) (u:Thr):Prop:=∃e t,L[i]? = some e∧(Wt code bs L i t∨∃b∈bs,t=newT (b:Int) ⟨i,e⟩)∧GoE code ⟨i,e⟩ t u
theorem rc_in {code:List In} (hI:Inb code) {hand:Nmb} {t:Thr} (ht:AtTk code t) {a:Int} {an:Nat} (h:RcT code hand t a an):0≤a∧a<code.length∧an<16:=by
 induction h with
 | zero=>exact ⟨by have:=ht.1;omega,ht.2,by omega⟩
 | next h1 h2 h3 ih =>
  rename_i a an x b bn
  have e:((a.toNat:Nat):Int)=a:=by omega
  have:=nx_in (hand:=hand) (t:=t) hI h2 ih.2.2
  rw [e] at this
  exact this _ h3
theorem goW_at {code:List In} (hI:Inb code) {hand:Nmb} {t u:Thr} (ht:AtTk code t) (h:GoW code hand t u):AtTk code u:=by
 obtain ⟨x,_,_,a,an,y,hr,hy,ho,rfl⟩:=h
 have h1:=rc_in hI ht hr
 have h2:=(hI _ y hy).1 (Or.inl ho)
 exact ⟨h1.1,by show a+1<_;omega⟩
theorem new_at {code:List In} {b:Nat} {hand:Nmb} (h:b+1<code.length):AtTk code (newT (b:Int) hand):=⟨by show (0:Int)≤(b:Int);omega,by show (b:Int)+1<_;omega⟩
theorem wt_at {code:List In} (hI:Inb code) {bs:List Nat} (hb:∀b∈bs,b+1<code.length) {L:List Evt}:∀(i:Nat) (u:Thr),Wt code bs L i u→AtTk code u∧Tru L u:=by
 intro i
 induction i with
 | zero=>intro u h;exact h.elim
 | succ i ih =>
  rintro u ⟨e,t,he,ht,hg⟩
  have h1:AtTk code t∧Tru L t:=by
   rcases ht with ht|⟨b,hb2,rfl⟩
   ·exact ih t ht
   ·exact ⟨new_at (hb b hb2),new_tru he _⟩
  refine ⟨goW_at hI h1.1 hg,?_⟩
  obtain ⟨x,_,_,a,an,y,hr,hy,ho,rfl⟩:=hg
  exact thread_tru he h1.2 _ _
theorem feed_ok {sc:List Int} {code:List In} {bs:List Nat} {live found:Int} {r:Rst} {e:Evt} (h:(feedS sc code bs live found r e).2.2=0) :
  (stepS code ⟨r.count,e⟩ r.ws bs live found).1.over=false∧(stepS code ⟨r.count,e⟩ r.ws bs live found).2.over=false∧(feedS sc code bs live found r e).1.ws=(stepS code ⟨r.count,e⟩ r.ws bs live found).1.l∧(feedS sc code bs live found r e).1.count=r.count+1∧(feedS sc code bs live found r e).2.1=(stepS code ⟨r.count,e⟩ r.ws bs live found).2.l.map (fun t=>matchT t r.count):=by
 unfold feedS at h ⊢
 split at h
 ·simp at h
 split at h
 ·simp at h
 split at h
 ·simp at h
 ·rename_i h1 h2 h3
  rw [if_neg h1,if_neg h2,if_neg h3]
  rw [Bool.or_eq_true] at h3
  exact ⟨notT (fun e=>h3 (Or.inl e)),notT (fun e=>h3 (Or.inr e)),rfl,rfl,rfl⟩
theorem run_mean {sc:List Int} {code:List In} {bs:List Nat} {live found:Int} {L:List Evt} (hI:Inb code) (hb:∀b∈bs,b+1<code.length)
  (hok:∀i e,L[i]? = some e→(feedS sc code bs live found (runS sc code bs live found ⟨[],0,0,false⟩ (L.take i)) e).2.2=0) :
  ∀i,i≤L.length→(runS sc code bs live found ⟨[],0,0,false⟩ (L.take i)).count=i∧Srt (runS sc code bs live found ⟨[],0,0,false⟩ (L.take i)).ws∧∀u,u∈(runS sc code bs live found ⟨[],0,0,false⟩ (L.take i)).ws↔Wt code bs L i u:=by
 intro i
 induction i with
 | zero=>intro _;exact ⟨rfl,List.Pairwise.nil,fun u=>by simp [runS,Wt]⟩
 | succ i ih =>
  intro hi
  obtain ⟨c,s,m⟩:=ih (by omega)
  obtain ⟨e,he⟩:∃e,L[i]? = some e:=⟨L[i],by simp [show i<L.length by omega]⟩
  have hr:runS sc code bs live found ⟨[],0,0,false⟩ (L.take (i+1))=(feedS sc code bs live found (runS sc code bs live found ⟨[],0,0,false⟩ (L.take i)) e).1:=by
   rw [List.take_add_one,he];unfold runS;rw [List.foldl_append];rfl
  obtain ⟨o1,o2,f1,f2,f3⟩:=feed_ok (hok i e he)
  rw [c] at o1 o2 f1
  have hat:=fun t ht=>wt_at hI hb (L:=L) i t ((m t).1 ht)
  obtain ⟨g1,_⟩:=step_iff hI (fun t ht=>(hat t ht).1) hb o1 o2
  obtain ⟨s1,_⟩:=step_srt (code:=code) (bs:=bs) (live:=live) (found:=found) he (fun t ht=>(hat t ht).2)
  rw [hr]
  refine ⟨by rw [f2,c],by rw [f1];exact s1.1,fun u => ?_⟩
  rw [f1,g1]
  constructor
  ·rintro ⟨t,ht,hg⟩
   refine ⟨e,t,he,?_,hg⟩
   rcases ht with ht|ht
   ·exact Or.inl ((m t).1 ht)
   ·exact Or.inr ht
  ·rintro ⟨e',t,he',ht,hg⟩
   rw [he] at he'
   cases he'
   refine ⟨t,?_,hg⟩
   rcases ht with ht|ht
   ·exact Or.inl ((m t).2 ht)
   ·exact Or.inr ht
theorem out_mean {sc:List Int} {code:List In} {bs:List Nat} {live found:Int} {L:List Evt} (hI:Inb code) (hb:∀b∈bs,b+1<code.length)
  (hok:∀i e,L[i]? = some e→(feedS sc code bs live found (runS sc code bs live found ⟨[],0,0,false⟩ (L.take i)) e).2.2=0) (i:Nat) (e:Evt) (he:L[i]? = some e) :
  ∃El:List Thr,(feedS sc code bs live found (runS sc code bs live found ⟨[],0,0,false⟩ (L.take i)) e).2.1=El.map (fun t=>matchT t i)∧Srt El∧∀u,u∈El↔Et code bs L i u:=by
 obtain ⟨c,s,m⟩:=run_mean hI hb hok i (Nat.le_of_lt (List.getElem?_eq_some_iff.1 he).1)
 obtain ⟨o1,o2,f1,f2,f3⟩:=feed_ok (hok i e he)
 rw [c] at o1 o2 f3
 have hat:=fun t ht=>wt_at hI hb (L:=L) i t ((m t).1 ht)
 obtain ⟨_,g2⟩:=step_iff hI (fun t ht=>(hat t ht).1) hb o1 o2
 obtain ⟨_,s2⟩:=step_srt (code:=code) (bs:=bs) (live:=live) (found:=found) he (fun t ht=>(hat t ht).2)
 refine ⟨_,f3,s2.1,fun u => ?_⟩
 rw [g2]
 constructor
 ·rintro ⟨t,ht,hg⟩
  refine ⟨e,t,he,?_,hg⟩
  rcases ht with ht|ht
  ·exact Or.inl ((m t).1 ht)
  ·exact Or.inr ht
 ·rintro ⟨e',t,he',ht,hg⟩
  rw [he] at he'
  cases he'
  refine ⟨t,?_,hg⟩
  rcases ht with ht|ht
  ·exact Or.inl ((m t).2 ht)
  ·exact Or.inr ht
theorem et_tru {code:List In} (hI:Inb code) {bs:List Nat} (hb:∀b∈bs,b+1<code.length) {L:List Evt} {i:Nat} {u:Thr} (h:Et code bs L i u):Tru L u:=by
 obtain ⟨e,t,he,ht,hg⟩:=h
 obtain ⟨x,hx,hk,a,an,y,hr,hy,ho,rfl⟩:=hg
 refine thread_tru he ?_ _ _
 rcases ht with ht|⟨b,_,rfl⟩
 ·exact (wt_at hI hb i t ht).2
 ·exact new_tru he _
def tmE (t:Tm):Bool:=decide (t.of=0)||decide (t.of=1)
def plainI (x:In):Bool:=(decide (x.op=0)||decide (x.op=4)||decide (x.op=5)||decide (x.op=6))||(decide (x.op=2)&&tmE x.test.left&&tmE x.test.right&&tmE x.test.more)
def plainB (code:List In):Bool:=code.all plainI
theorem plain_op {code:List In} (h:plainB code=true) {a:Nat} {x:In} (hx:code[a]? = some x):x.op=0∨x.op=4∨x.op=5∨x.op=6∨(x.op=2∧tmE x.test.left=true∧tmE x.test.right=true∧tmE x.test.more=true):=by
 have:=(List.all_eq_true.1 h) x (List.mem_of_getElem? hx)
 simp only [plainI,Bool.or_eq_true,Bool.and_eq_true,decide_eq_true_eq] at this
 rcases this with ((h|h)|h)|h
 ·rcases h with h|h
  ·exact Or.inl h
  ·exact Or.inr (Or.inl h)
 ·exact Or.inr (Or.inr (Or.inl h))
 ·exact Or.inr (Or.inr (Or.inr (Or.inl h)))
 ·exact Or.inr (Or.inr (Or.inr (Or.inr ⟨h.1.1.1,h.1.1.2,h.1.2,h.2⟩)))
def Bare (t:Thr):Prop:=t.h0=nmb0∧t.h1=nmb0∧t.h2=nmb0∧t.h3=nmb0
theorem thread_bare {hand:Nmb} {t:Thr} (h:Bare t) (a:Int):threadS hand t a 0=⟨a,t.first,t.began,nmb0,nmb0,nmb0,nmb0⟩:=by
 obtain ⟨h0,h1,h2,h3⟩:=h
 simp [threadS,heldS,Thr.hd,h0,h1,h2,h3]
def tksZ (code:List In):List Int:=(List.range code.length).filterMap fun a=>match code[a]? with|some x=>if x.op=0 then some (a:Int) else none|none=>none
theorem tksZ_mem {code:List In} {a:Nat} {x:In} (hx:code[a]? = some x) (h0:x.op=0):(a:Int)∈tksZ code:=by
 unfold tksZ
 rw [List.mem_filterMap]
 refine ⟨a,List.mem_range.2 (List.getElem?_eq_some_iff.1 hx).1,?_⟩
 rw [hx]
 simp [h0]
theorem nodup_le {α:Type} [DecidableEq α]:∀(l m:List α),l.Pairwise (fun a b=>¬a=b)→(∀a∈l,a∈m)→l.length≤m.length:=by
 intro l
 induction l with
 | nil=>intro m _ _;simp
 | cons a r ih =>
  intro m hn hs
  have hp:=List.pairwise_cons.1 hn
  have ha:=hs a List.mem_cons_self
  have:=ih (m.erase a) hp.2 (by
   intro b hb
   have hne:¬b=a:=fun e=>hp.1 b hb e.symm
   exact (List.mem_erase_of_ne hne).2 (hs b (List.mem_cons_of_mem _ hb)))
  rw [List.length_erase_of_mem ha] at this
  have hpos:0<m.length:=List.length_pos_of_mem ha
  simp only [List.length_cons]
  omega
structure Kd (L:List Evt) (TK:List Int) (n:Nat) (u:Thr):Prop where
 t:Tru L u
 a:u.at'∈TK
 f:u.first<n
 b:Bare u
theorem kd_len {L:List Evt} {TK:List Int} {n:Nat} {l:List Thr} (hs:Srt l) (hk:∀u∈l,Kd L TK n u):l.length≤TK.length*n:=by
 have h:=nodup_le (l.map fun u=>(u.at',u.first.toNat)) (TK.flatMap fun a=>(List.range n).map fun f=>(a,f)) ?_ ?_
 ·rw [List.length_map] at h
  refine Nat.le_trans h ?_
  rw [List.length_flatMap]
  have:(TK.map fun a=>((List.range n).map fun f=>(a,f)).length).sum=TK.length*n:=by
   clear h hk
   induction TK with
   | nil=>simp
   | cons a r ih=>rw [List.map_cons,List.sum_cons,ih,List.length_map,List.length_range,List.length_cons,Nat.succ_mul];omega
  rw [this]
  exact Nat.le_refl _
 ·rw [List.pairwise_map]
  refine List.Pairwise.imp_of_mem ?_ hs
  intro a b ha hb hab e
  have ka:=hk a ha
  have kb:=hk b hb
  obtain ⟨na,_,fa,_⟩:=ka.t.f
  obtain ⟨nb,_,fb,_⟩:=kb.t.f
  have e1:a.at'=b.at':=congrArg Prod.fst e
  have e2:a.first.toNat=b.first.toNat:=congrArg Prod.snd e
  obtain ⟨a0,a1,a2,a3⟩:=ka.b
  obtain ⟨b0,b1,b2,b3⟩:=kb.b
  rw [ahead_iff,a0,a1,a2,a3,b0,b1,b2,b3] at hab
  omega
 ·intro p hp
  obtain ⟨u,hu,rfl⟩:=List.mem_map.1 hp
  have k:=hk u hu
  obtain ⟨nu,_,fu,_⟩:=k.t.f
  have:=k.f
  exact List.mem_flatMap.2 ⟨u.at',k.a,List.mem_map.2 ⟨u.first.toNat,List.mem_range.2 (by omega),rfl⟩⟩
structure Fre (L:List Evt) (TK:List Int) (n:Nat) (c:Crw):Prop where
 s:Srt c.l
 k:∀u∈c.l,Kd L TK n u
 o:c.over=false
 m:((TK.length*n:Nat):Int)≤c.most
theorem Fre.add {L:List Evt} {TK:List Int} {n:Nat} {c:Crw} {t:Thr} (h:Fre L TK n c) (ht:Kd L TK n t):Fre L TK n (addC c t):=by
 have hk:∀u∈(addC c t).l,Kd L TK n u:=by
  intro u hu
  rcases addC_sub hu with h1|h1
  ·exact h.k u h1
  ·subst h1;exact ht
 refine ⟨addC_srt h.s (fun u hu=>(h.k u hu).t.tri ht.t),hk,?_,by rw [addC_most];exact h.m⟩
 unfold addC
 split
 ·exact h.o
 ·rename_i e1
  split
  ·rename_i e2
   exfalso
   have hs2:=addC_srt (c:={ c with most:=(c.l.length:Int)+1 }) (t:=t) h.s (fun u hu=>(h.k u hu).t.tri ht.t)
   have hk2:∀u∈(addC { c with most:=(c.l.length:Int)+1 } t).l,Kd L TK n u:=by
    intro u hu
    rcases addC_sub hu with h1|h1
    ·exact h.k u h1
    ·subst h1;exact ht
   have hl:=kd_len hs2 hk2
   have hle:=plcT_le c.l t
   have:(addC { c with most:=(c.l.length:Int)+1 } t).l.length=c.l.length+1:=by
    unfold addC
    rw [if_neg e1,if_neg (by simp only;omega)]
    simp;omega
   have:=h.m
   omega
  ·exact h.o
structure FreT (L:List Evt) (code:List In) (n:Nat) (s:Tn):Prop where
 w:Fre L (tksZ code) n s.wait
 e:Fre L [0] n s.ended
 o:∀p∈s.opn,0≤p.1∧p.2=0
theorem FreT.rch {L:List Evt} {code:List In} {n:Nat} {s:Tn} (h:FreT L code n s) (a:Int):FreT L code n (rchS s a 0):=by
 refine ⟨by rw [(rchS_wait _ _ _).1];exact h.w,by rw [(rchS_wait _ _ _).2];exact h.e,?_⟩
 intro p hp
 unfold rchS at hp
 split at hp
 ·rename_i hc
  rcases List.mem_append.1 hp with h1|h1
  ·exact h.o p h1
  ·simp at h1;subst h1;exact ⟨hc.1,rfl⟩
 ·exact h.o p hp
theorem FreT.lv {L:List Evt} {code:List In} (hP:plainB code=true) {n:Nat} {hand:Nmb} {t:Thr} {i:Nat} (hh:hand.n=i) (hi:L[i]? = some hand.e) (ht:Tru L t) (hb:Bare t) (hf:t.first<n) {s:Tn} (h:FreT L code n s) {a:Int} (h0:0≤a) {x:In} (hx:code[a.toNat]? = some x):FreT L code n (lvS hand t s a 0 x):=by
 have hth:∀z,Tru L (threadS hand t z 0):=by
  intro z
  obtain ⟨hn,he⟩:=hand
  simp only at hh hi
  subst hh
  exact thread_tru hi ht z 0
 have e:=plain_op hP hx
 unfold lvS
 split
 ·rename_i h1
  refine ⟨h.w.add ⟨hth _,?_,?_,?_⟩,h.e,h.o⟩
  ·have:=tksZ_mem hx h1
   rw [show ((a.toNat:Nat):Int)=a by omega] at this
   exact this
  ·exact hf
  ·rw [thread_bare hb];exact ⟨rfl,rfl,rfl,rfl⟩
 split
 ·omega
 split
 ·split
  ·exact h.rch _
  ·exact h
 split
 ·omega
 split
 ·exact h.rch _
 split
 ·exact (h.rch _).rch _
 split
 ·refine ⟨h.w,h.e.add ⟨hth _,by simp [threadS],hf,?_⟩,h.o⟩
  rw [thread_bare hb];exact ⟨rfl,rfl,rfl,rfl⟩
 ·exact h
theorem FreT.go {L:List Evt} {code:List In} (hP:plainB code=true) {n:Nat} {hand:Nmb} {t:Thr} {i:Nat} (hh:hand.n=i) (hi:L[i]? = some hand.e) (ht:Tru L t) (hb:Bare t) (hf:t.first<n):∀(m:Nat) (s:Tn),FreT L code n s→FreT L code n (goF code hand t m s):=by
 intro m
 induction m with
 | zero=>intro s h;exact h
 | succ m ih =>
  intro s h
  unfold goF
  split
  ·exact h
  split
  ·exact h
  split
  ·exact h
  ·rename_i p hp _ x hx
   have hpo:=h.o p (List.mem_of_getLast? hp)
   refine ih _ ?_
   rw [hpo.2]
   exact FreT.lv hP hh hi ht hb hf (show FreT L code n { s with opn:=s.opn.dropLast } from ⟨h.w,h.e,fun q hq=>h.o q (List.dropLast_subset _ hq)⟩) hpo.1 hx
theorem goOn_fre {L:List Evt} {code:List In} (hP:plainB code=true) {n:Nat} {hand:Nmb} {t:Thr} {i:Nat} (hh:hand.n=i) (hi:L[i]? = some hand.e) (ht:Tru L t) (hb:Bare t) (hf:t.first<n) (c:Crw×Crw) (h:Fre L (tksZ code) n c.1∧Fre L [0] n c.2):Fre L (tksZ code) n (goOnS code hand c t).1∧Fre L [0] n (goOnS code hand c t).2:=by
 unfold goOnS
 split
 ·exact h
 split
 ·have:=FreT.go hP hh hi ht hb hf (1+16*code.length) (rchS ⟨List.replicate (16*code.length) false,[],c.1,c.2⟩ (t.at'+1) 0) (FreT.rch ⟨h.1,h.2,by simp⟩ _)
  exact ⟨this.w,this.e⟩
 ·exact h
theorem fold_fre {L:List Evt} {code:List In} (hP:plainB code=true) {n:Nat} {hand:Nmb} {i:Nat} (hh:hand.n=i) (hi:L[i]? = some hand.e):∀(ts:List Thr) (c:Crw×Crw),(∀t∈ts,Tru L t∧Bare t∧t.first<n)→(Fre L (tksZ code) n c.1∧Fre L [0] n c.2)→Fre L (tksZ code) n (ts.foldl (goOnS code hand) c).1∧Fre L [0] n (ts.foldl (goOnS code hand) c).2:=by
 intro ts
 induction ts with
 | nil=>intro c _ h;exact h
 | cons t r ih =>
  intro c ht h
  obtain ⟨h1,h2,h3⟩:=ht t List.mem_cons_self
  exact ih _ (fun u hu=>ht u (List.mem_cons_of_mem _ hu)) (goOn_fre hP hh hi h1 h2 h3 c h)
theorem step_fre {L:List Evt} {code:List In} (hP:plainB code=true) {i:Nat} {e:Evt} (he:L[i]? = some e) {ws:List Thr} {bs:List Nat} {live found:Int} (hw:∀t∈ws,Tru L t∧Bare t∧t.first<(i:Int)) (hl:(((tksZ code).length*(i+1):Nat):Int)≤live) (hf:((i+1:Nat):Int)≤found) :
  Fre L (tksZ code) (i+1) (stepS code ⟨i,e⟩ ws bs live found).1∧Fre L [0] (i+1) (stepS code ⟨i,e⟩ ws bs live found).2:=by
 unfold stepS
 refine fold_fre hP (i:=i) rfl he _ _ ?_ (fold_fre hP (i:=i) rfl he _ _ ?_ ⟨⟨List.Pairwise.nil,by simp,rfl,hl⟩,⟨List.Pairwise.nil,by simp,rfl,by simp;omega⟩⟩)
 ·intro t ht
  obtain ⟨b,_,rfl⟩:=List.mem_map.1 ht
  exact ⟨new_tru he _,⟨rfl,rfl,rfl,rfl⟩,by show (i:Int)<_;omega⟩
 ·intro t ht
  obtain ⟨h1,h2,h3⟩:=hw t ht
  exact ⟨h1,h2,by omega⟩
theorem GoesE.last {sc:List Int}:∀ {L:List Evt} {now:Int} (i:Nat) (e:Evt),GoesE sc now L→L[i]? = some e→goodE sc e=true∧(L.take i).foldl (fun _ x=>x.at') now≤e.at'∧(e.kind=0∨e.kind=1∨e.kind=2):=by
 intro L
 induction L with
 | nil=>intro now i e _ h;simp at h
 | cons a r ih =>
  intro now i e h hi
  obtain ⟨h1,h2,h3,h4⟩:=h
  cases i with
  | zero=>simp at hi;subst hi;exact ⟨h2,h3,h1⟩
  | succ i=>exact ih (now:=a.at') i e h4 (by simpa using hi)
theorem free_plain {sc:List Int} {code:List In} {bs:List Nat} {live found:Int} {L:List Evt} (hP:plainB code=true) (hg:GoesE sc 0 L) (hl:(((tksZ code).length*L.length:Nat):Int)≤live) (hf:(L.length:Int)≤found) :
  ∀i,i≤L.length→((runS sc code bs live found ⟨[],0,0,false⟩ (L.take i)).count=i∧(runS sc code bs live found ⟨[],0,0,false⟩ (L.take i)).spent=false∧(runS sc code bs live found ⟨[],0,0,false⟩ (L.take i)).last=(L.take i).foldl (fun _ x=>x.at') 0∧∀t∈(runS sc code bs live found ⟨[],0,0,false⟩ (L.take i)).ws,Tru L t∧Bare t∧t.first<(i:Int)) ∧
   ∀e,L[i]? = some e→(feedS sc code bs live found (runS sc code bs live found ⟨[],0,0,false⟩ (L.take i)) e).2.2=0:=by
 have key:∀i e,L[i]? = some e→((runS sc code bs live found ⟨[],0,0,false⟩ (L.take i)).count=i∧(runS sc code bs live found ⟨[],0,0,false⟩ (L.take i)).spent=false∧(runS sc code bs live found ⟨[],0,0,false⟩ (L.take i)).last=(L.take i).foldl (fun _ x=>x.at') 0∧∀t∈(runS sc code bs live found ⟨[],0,0,false⟩ (L.take i)).ws,Tru L t∧Bare t∧t.first<(i:Int)) →
   (feedS sc code bs live found (runS sc code bs live found ⟨[],0,0,false⟩ (L.take i)) e).2.2=0∧(feedS sc code bs live found (runS sc code bs live found ⟨[],0,0,false⟩ (L.take i)) e).1.spent=false∧(feedS sc code bs live found (runS sc code bs live found ⟨[],0,0,false⟩ (L.take i)) e).1.last=e.at'∧(feedS sc code bs live found (runS sc code bs live found ⟨[],0,0,false⟩ (L.take i)) e).1.count=i+1∧(∀t∈(feedS sc code bs live found (runS sc code bs live found ⟨[],0,0,false⟩ (L.take i)) e).1.ws,Tru L t∧Bare t∧t.first<((i+1:Nat):Int)):=by
  rintro i e he ⟨c,sp,la,hw⟩
  obtain ⟨g1,g2,_⟩:=GoesE.last i e hg he
  have hil:=(List.getElem?_eq_some_iff.1 he).1
  have hmul:(tksZ code).length*(i+1)≤(tksZ code).length*L.length:=Nat.mul_le_mul_left _ hil
  obtain ⟨f1,f2⟩:=step_fre (bs:=bs) (live:=live) (found:=found) hP he hw (by omega) (by omega)
  unfold feedS
  rw [c,if_neg (by simp [sp]),if_neg (by rw [la];simp [g1];omega),if_neg (by simp [f1.o,f2.o])]
  exact ⟨rfl,sp,rfl,rfl,fun t ht=>⟨(f1.k t ht).t,(f1.k t ht).b,(f1.k t ht).f⟩⟩
 intro i
 induction i with
 | zero=>intro _;exact ⟨⟨rfl,rfl,rfl,by simp [runS]⟩,fun e he=>(key 0 e he ⟨rfl,rfl,rfl,by simp [runS]⟩).1⟩
 | succ i ih =>
  intro hi
  obtain ⟨h1,h2⟩:=ih (by omega)
  obtain ⟨e,he⟩:∃e,L[i]? = some e:=⟨L[i],by simp [show i<L.length by omega]⟩
  obtain ⟨k1,k2,k3,k4,k5⟩:=key i e he h1
  have ht:L.take (i+1)=L.take i++[e]:=by rw [List.take_add_one,he];rfl
  have hr:runS sc code bs live found ⟨[],0,0,false⟩ (L.take (i+1))=(feedS sc code bs live found (runS sc code bs live found ⟨[],0,0,false⟩ (L.take i)) e).1:=by
   rw [ht];unfold runS;rw [List.foldl_append];rfl
  have h3:(runS sc code bs live found ⟨[],0,0,false⟩ (L.take (i+1))).count=i+1∧(runS sc code bs live found ⟨[],0,0,false⟩ (L.take (i+1))).spent=false∧(runS sc code bs live found ⟨[],0,0,false⟩ (L.take (i+1))).last=(L.take (i+1)).foldl (fun _ x=>x.at') 0∧∀t∈(runS sc code bs live found ⟨[],0,0,false⟩ (L.take (i+1))).ws,Tru L t∧Bare t∧t.first<((i+1:Nat):Int):=by
   rw [hr]
   refine ⟨k4,k2,?_,k5⟩
   rw [k3,ht,List.foldl_append]
   rfl
  exact ⟨h3,fun e' he'=>(key (i+1) e' he' h3).1⟩
end Go.Proofs.YtcboiapggnmpfaaGreatDoor
