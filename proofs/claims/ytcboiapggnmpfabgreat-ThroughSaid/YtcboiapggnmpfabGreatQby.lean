import Derived.Test.YtcboiapggnmpfabGreatQbx
namespace Go.Proofs.YtcboiapggnmpfabGreat
set_option maxRecDepth 100000
set_option maxHeartbeats 4000000
set_option linter.unusedSimpArgs false
set_option linter.unusedVariables false
open Go.RowKit
open Value (slice)
def RunA (w:World) (X:Nat) (sc:List Int) (live found:Int) (l:List In) (P:Nat→Prop) (r:Rst):Prop :=
 ∃g cap bv,RunK w X sc live found g cap l bv (beginsS l) r∧RunC sc live found l (beginsS l)∧P X∧P g∧(∀b,bv.ownBlock=some b→P b)∧(∀v b,w.cell? ⟨X,9,none⟩=some v→v.ownBlock=some b→P b)
theorem RunA.lt {w:World} {X:Nat} {sc:List Int} {live found:Int} {l:List In} {P:Nat→Prop} {r:Rst} (h:RunA w X sc live found l P r):X<w.heap.size:=by
 obtain ⟨_,_,_,⟨⟨_,h⟩,_,_⟩,_⟩:=h
 exact h.lt
theorem RunA.mono {w:World} {X:Nat} {sc:List Int} {live found:Int} {l:List In} {P Q:Nat→Prop} {r:Rst} (h:RunA w X sc live found l P r) (hPQ:∀b,b<w.heap.size→P b→Q b):RunA w X sc live found l Q r:=by
 have hX:=h.lt
 obtain ⟨g,cap,bv,hk,hc,p1,p2,p3,p4⟩:=h
 obtain ⟨⟨wv,hm⟩,_,_⟩:=id hk
 refine ⟨g,cap,bv,hk,hc,hPQ _ hX p1,hPQ _ hm.code.lt p2,fun b hb=>hPQ _ (hm.bo.lt b hb).2 (p3 b hb),fun v b hv hb=>hPQ _ ?_ (p4 v b hv hb)⟩
 rw [hm.wt] at hv
 cases hv
 exact (hm.wo.lt b hb).2
theorem RunA.kp {S:Nat→Prop} {w w':World} {X:Nat} {sc:List Int} {live found:Int} {l:List In} {P:Nat→Prop} {r:Rst} (h:RunA w X sc live found l P r) (k:Kp S w w') (hS:∀b,b<w.heap.size→P b→¬S b):RunA w' X sc live found l P r:=by
 have hX:=h.lt
 obtain ⟨g,cap,bv,⟨⟨wv,hm⟩,hn,hk⟩,hc,p1,p2,p3,p4⟩:=h
 refine ⟨g,cap,bv,⟨⟨wv,hm.kq k (hS _ hX p1) (hS _ hm.code.lt p2) (fun b hb=>hS _ (hm.bo.lt b hb).2 (p3 b hb)) (fun b hb=>hS _ (hm.wo.lt b hb).2 (p4 wv b hm.wt hb))⟩,hn,hk⟩,hc,p1,p2,p3,?_⟩
 intro v b hv hb
 rw [k.cell (p:=⟨X,9,none⟩) hX (hS _ hX p1)] at hv
 exact p4 v b hv hb
theorem RunA.nw {w w':World} {X:Nat} {sc:List Int} {live found:Int} {l:List In} {P:Nat→Prop} {r:Rst} (h:RunA w X sc live found l P r) (k:Nw w w'):RunA w' X sc live found l P r:=h.kp k (fun _ _ _ h=>h)
theorem NewRun.runA {w w':World} {X:Nat} {sc:List Int} {live found:Int} {l:List In} (h:NewRun w w' X sc live found l):RunA w' X sc live found l (fun b=>w.heap.size≤b∧b<w'.heap.size) ⟨[],0,0,false⟩:=by
 obtain ⟨g,cap,bv,hk,hg,hb⟩:=h.k
 obtain ⟨⟨wv,hm⟩,_,_⟩:=id hk
 refine ⟨g,cap,bv,hk,h.c,⟨h.x,hm.lt⟩,⟨hg,hm.code.lt⟩,fun b e=>⟨hb b e,(hm.bo.lt b e).2⟩,fun v b hv hb => ?_⟩
 rw [h.e] at hv
 cases hv
 cases hb
def FedA (w:World) (X:Nat) (sc:List Int) (live found:Int) (l:List In) (P:Nat→Prop) (p:Rst×List Mt×Int) (e:Ending) (w':World):Prop :=
 ∃mp mc,e=.returned (.tuple #[.slice mp p.2.1.length mc,.int .i64 p.2.2])∧w'.ownsRow w.heap.size 36 6 (.slice mp p.2.1.length mc) p.2.1.length (mtsC p.2.1)∧RunA w' X sc live found l P p.1∧Kp (fun b=>b=X) w w'∧(¬p.2.2=0→slice mp p.2.1.length mc=.slice none 0 0)
theorem feedA_any {w:World} {X:Nat} {sc:List Int} {live found:Int} {l:List In} {P:Nat→Prop} {r:Rst} (h:RunA w X sc live found l P r) (hP:∀b,w.heap.size≤b→P b) {e:Evt} (he:EvOk e) (hct:r.count≤1000000) :
  Calls Tryz.prog 21 #[.pointer (some ⟨X,0,none⟩),.agg #[.int .i64 e.at',.int .i64 e.kind,.int .i64 e.x,.int .i64 e.y,.int .i64 e.z]] w (FedA w X sc live found l P (feedS sc l (beginsS l) live found r e)):=by
 obtain ⟨g,cap,bv,hk,hc,p1,p2,p3,p4⟩:=h
 refine (feedX_any X sc live found g cap l bv (beginsS l) r e w hc hk he hct).mono ?_
 rintro e3 w3 ⟨v,rfl,hO,hk3,kk,hnl,hlw⟩
 obtain ⟨mp,mc,rfl⟩:=ownsLenX hO
 refine ⟨mp,mc,rfl,hO,⟨g,cap,bv,hk3,hc,p1,p2,p3,?_⟩,kk,hnl⟩
 intro v b hv hb
 rcases hlw v b hv hb with h|h
 ·exact hP b h
 ·exact p4 v b h hb
theorem RunA.live {w:World} {X:Nat} {sc:List Int} {live found:Int} {l:List In} {P:Nat→Prop} {r:Rst} (h:RunA w X sc live found l P r):Calls Tryz.prog 22 #[.pointer (some ⟨X,0,none⟩)] w fun e w'=>e=.returned (.int .i64 (r.ws.length:Int))∧w'=w:=by
 obtain ⟨g,cap,bv,⟨⟨wv,hm⟩,_,_⟩,_⟩:=h
 obtain ⟨p,c,rfl⟩:=ownsLenX hm.wo
 exact liveX_any X _ p c w hm.wt
theorem RunA.count {w:World} {X:Nat} {sc:List Int} {live found:Int} {l:List In} {P:Nat→Prop} {r:Rst} (h:RunA w X sc live found l P r):Calls Tryz.prog 23 #[.pointer (some ⟨X,0,none⟩)] w fun e w'=>e=.returned (.int .i64 (r.count:Int))∧w'=w:=by
 obtain ⟨g,cap,bv,⟨⟨wv,hm⟩,_,_⟩,_⟩:=h
 exact countX_any X _ w hm.ct
structure NamK (s:ByteArray) (code:List In):Prop where
 p:ProgIs ⟨#[49,49,49]⟩ s code
 z:s.size≤1000
 f:freeB code (beginsS code) 12=true
def namesC:List Value:=[.string ⟨#[97,65,32,98,91,120,62,65,120,93]⟩,.string ⟨#[97,65,46,42,98,91,120,62,65,120,93]⟩,.string ⟨#[97,65,46,42,98,66,91,120,62,65,120,93,46,42,99,91,120,60,66,120,93]⟩,.string ⟨#[40,97,65,124,97,66,41,98,42,99]⟩,.string ⟨#[40,97,65,32,98,124,98,66,32,97,41,99,67]⟩,.string ⟨#[97,65,40,98,91,120,61,65,120,93,124,99,91,120,35,65,120,93,41,43]⟩,.string ⟨#[97,65,91,120,62,49,93,98,123,48,50,125,99,66,91,116,60,65,116,43,57,93]⟩,.string ⟨#[40,97,65,124,97,65,46,41,98,66,91,120,60,65,120,42,50,93,64,50,48]⟩,.string ⟨#[99,65,46,123,48,51,125,99,66,91,120,61,65,120,45,49,93]⟩,.string ⟨#[97,65,46,42,97,66,91,120,62,65,120,93,64,49,50]⟩]
theorem NamK.pat {s:ByteArray} {code:List In} (h:NamK s code) {L:List Evt} (hL:L.length≤12) (hg:GoesE (bI ⟨#[49,49,49]⟩) 0 L):PatK s code L :=
 ⟨h.p,h.z,fun i e hi=>(free_of h.f hL hg hi).1⟩
theorem evsR_get (l:List Evt):∀(i j:Nat) (x:Evt),l[i]? = some x→j<5→(evsR l)[i*5+j]? = (evC5 x)[j]?:=by
 induction l with
 | nil=>intro i j x h;simp at h
 | cons y r ih =>
  intro i j x h hj
  have e:evsR (y::r)=evC5 y++evsR r:=by simp [evsR]
  have hl:(evC5 y).length=5:=rfl
  rw [e]
  cases i with
  | zero=>simp at h;subst h;rw [List.getElem?_append_left (by omega)];simp
  | succ i =>
   simp at h
   rw [List.getElem?_append_right (by omega),hl]
   have:(i+1)*5+j - 5=i*5+j:=by omega
   rw [this];exact ih i j x h hj
section
section
variable {l:List In} {hand:Nmb} {t:Thr}
theorem goF_tn (hn:l.length≤1000) (hh:In64 hand.n∧EvOk hand.e) (ht:TOk t) (hA:AllIns l):∀(m:Nat) (s:Tn),TnOk l.length s→TnOk l.length (goF l hand t m s):=by
 intro m
 induction m with
 | zero=>intro s h;exact h
 | succ m ih =>
  intro s h
  unfold goF
  split
  ·exact h
  ·split
   ·exact h
   ·rename_i p hp
    split
    ·exact h
    ·rename_i x hx
     obtain ⟨⟨a,ha,hal⟩,hw⟩:=h.o p (List.mem_of_getLast? hp)
     have hb:TnOk l.length { s with opn:=s.opn.dropLast }:=⟨h.w,h.e,h.v,fun u hu=>h.o u (List.dropLast_subset _ hu)⟩
     have hx':l[a]? = some x:=by rw [ha] at hx;simpa using hx
     rw [ha]
     exact ih _ (lvS_ok rfl hn hb hh ht hA hx' hw).1
theorem goOn_cr (hn:l.length≤1000) (hh:In64 hand.n∧EvOk hand.e) (ht:TOk t) (hA:AllIns l) {c:Crw×Crw} (h1:CrOk c.1) (h2:CrOk c.2):CrOk (goOnS l hand c t).1∧CrOk (goOnS l hand c t).2:=by
 unfold goOnS
 split
 ·exact ⟨h1,h2⟩
 ·rename_i x hx
  split
  ·have s0:TnOk l.length ⟨List.replicate (16*l.length) false,[],c.1,c.2⟩:=⟨h1,h2,by simp,fun p hp=>by simp at hp⟩
   have e1:t.at'+1=((t.at'.toNat+1:Nat):Int):=by have:=ht.a;omega
   have s1:=rchS_ok s0 (t.at'.toNat+1) 0 (by omega)
   rw [e1]
   have s2:=goF_tn hn hh ht hA (1+16*l.length) _ s1
   exact ⟨s2.w,s2.e⟩
  ·exact ⟨h1,h2⟩
end
theorem fold_cr {l:List In} {hand:Nmb} (hn:l.length≤1000) (hh:In64 hand.n∧EvOk hand.e) (hA:AllIns l):∀(ts:List Thr) (c:Crw×Crw),(∀t∈ts,TOk t)→CrOk c.1→CrOk c.2→CrOk (ts.foldl (goOnS l hand) c).1∧CrOk (ts.foldl (goOnS l hand) c).2:=by
 intro ts
 induction ts with
 | nil=>intro c _ h1 h2;exact ⟨h1,h2⟩
 | cons t ts ih =>
  intro c ht h1 h2
  obtain ⟨a,b⟩:=goOn_cr hn hh (ht t (by simp)) hA h1 h2
  exact ih _ (fun u hu=>ht u (by simp [hu])) a b
theorem mt_of {t:Thr} (h:TOk t) {n:Int} (hn:In64 n):MtOk (matchT t n) :=
 ⟨h.k.f,hn,(h.k.h 0).1,(h.k.h 1).1,(h.k.h 2).1,(h.k.h 3).1⟩
theorem feed_mts {sc:List Int} {l:List In} {bs:List Nat} {live found:Int} (hc:RunC sc live found l bs) {r:Rst} (hw:∀u∈r.ws,TOk u) {e:Evt} (he:EvOk e) (hct:r.count≤1000000):∀m∈(feedS sc l bs live found r e).2.1,MtOk m:=by
 intro m hm
 unfold feedS at hm
 split at hm
 ·simp at hm
 ·split at hm
  ·simp at hm
  ·rename_i h2
   split at hm
   ·simp at hm
   ·simp only [List.mem_map] at hm
    obtain ⟨t,ht,rfl⟩:=hm
    have hg:goodE sc e=true:=by
     simp only [not_or,Bool.not_eq_false] at h2
     exact h2.2
    have htm:TimeOk e.at':=by
     unfold goodE at hg
     simp only [Bool.and_eq_true,decide_eq_true_eq] at hg
     unfold TimeOk
     omega
    have hh:In64 (r.count:Int)∧EvOk e:=⟨by unfold In64;omega,he⟩
    have c0:∀n:Int,n≤10000→CrOk ⟨[],n,false⟩:=fun n hn=>⟨hn,by simp,fun u hu=>by simp at hu⟩
    obtain ⟨f1,f2⟩:=fold_cr (hand:=⟨r.count,e⟩) hc.n hh hc.a r.ws (⟨[],live,false⟩,⟨[],found,false⟩) hw (c0 _ hc.lv) (c0 _ hc.fd)
    obtain ⟨g1,g2⟩:=fold_cr (hand:=⟨r.count,e⟩) hc.n hh hc.a (bs.map (fun b:Nat=>newT (b:Int) ⟨r.count,e⟩)) _ (fun u hu=>by
     obtain ⟨b,hb,rfl⟩:=List.mem_map.1 hu
     exact newT_ok hh htm (by have:=hc.bl b hb;have:=hc.n;omega)) f1 f2
    exact mt_of (g2.t t ht) (by unfold In64;omega)
theorem feed_len {sc:List Int} {l:List In} {bs:List Nat} {live found:Int} (hc:RunC sc live found l bs) {r:Rst} (hw:∀u∈r.ws,TOk u) {e:Evt} (he:EvOk e) (hct:r.count≤1000000):(feedS sc l bs live found r e).2.1.length≤10000:=by
 unfold feedS
 split
 ·simp
 ·split
  ·simp
  ·rename_i h2
   split
   ·simp
   ·simp only [List.length_map]
    have hg:goodE sc e=true:=by
     simp only [not_or,Bool.not_eq_false] at h2
     exact h2.2
    have htm:TimeOk e.at':=by
     unfold goodE at hg
     simp only [Bool.and_eq_true,decide_eq_true_eq] at hg
     unfold TimeOk
     omega
    have hh:In64 (r.count:Int)∧EvOk e:=⟨by unfold In64;omega,he⟩
    have c0:∀n:Int,n≤10000→CrOk ⟨[],n,false⟩:=fun n hn=>⟨hn,by simp,fun u hu=>by simp at hu⟩
    obtain ⟨f1,f2⟩:=fold_cr (hand:=⟨r.count,e⟩) hc.n hh hc.a r.ws (⟨[],live,false⟩,⟨[],found,false⟩) hw (c0 _ hc.lv) (c0 _ hc.fd)
    obtain ⟨g1,g2⟩:=fold_cr (hand:=⟨r.count,e⟩) hc.n hh hc.a (bs.map (fun b:Nat=>newT (b:Int) ⟨r.count,e⟩)) _ (fun u hu=>by
     obtain ⟨b,hb,rfl⟩:=List.mem_map.1 hu
     exact newT_ok hh htm (by have:=hc.bl b hb;have:=hc.n;omega)) f1 f2
    exact g2.n
end
theorem Eb.evs {W0 wr:World} {lp:Option Addr} {n c:Nat} {L:List Evt} (h:Eb W0 wr (.slice lp n c) L):EvsP wr lp L∧(∀g,lp=some ⟨g,0,none⟩→g<wr.heap.size):=by
 refine ⟨?_,?_⟩
 ·intro hne
  obtain ⟨g,c',e⟩:=owns_some h.own (List.length_pos_iff.2 hne)
  simp only [Value.slice.injEq] at e
  obtain ⟨rfl,rfl,rfl⟩:=e
  refine ⟨g,rfl,(h.own.lt g rfl).2,?_⟩
  intro i x hx j v hv
  have hj:j<5:=by have:=(List.getElem?_eq_some_iff.1 hv).1;simpa [evC5] using this
  exact owns_cell h.own (i*5+j) (by rw [evsR_get L i j x hx hj];exact hv)
 ·intro g e
  subst e
  exact (h.own.lt g rfl).2
theorem mtsC_get (l:List Mt):∀(i j:Nat) (x:Mt),l[i]? = some x→j<6→(mtsC l)[i*6+j]? = (mtC x)[j]?:=by
 induction l with
 | nil=>intro i j x h;simp at h
 | cons y r ih =>
  intro i j x h hj
  have e:mtsC (y::r)=mtC y++mtsC r:=by simp [mtsC]
  have hl:(mtC y).length=6:=rfl
  rw [e]
  cases i with
  | zero=>simp at h;subst h;rw [List.getElem?_append_left (by omega)];simp
  | succ i =>
   simp at h
   rw [List.getElem?_append_right (by omega),hl]
   have:(i+1)*6+j - 6=i*6+j:=by omega
   rw [this];exact ih i j x h hj
theorem mts_of {w:World} {base:Nat} {mp:Option Addr} {mc:Nat} {l:List Mt} (h:w.ownsRow base 36 6 (.slice mp l.length mc) l.length (mtsC l)):MtsP w mp l:=by
 intro hne
 obtain ⟨g,c',e⟩:=owns_some h (List.length_pos_iff.2 hne)
 simp only [Value.slice.injEq,true_and] at e
 obtain ⟨rfl,rfl⟩:=e
 refine ⟨g,rfl,(h.lt g rfl).2,?_⟩
 intro i x hx j v hv
 have hj:j<6:=by have:=(List.getElem?_eq_some_iff.1 hv).1;simpa [mtC] using this
 exact owns_cell h (i*6+j) (by rw [mtsC_get l i j x hx hj];exact hv)
structure StrK (code:List In) (L:List Evt):Prop where
 n:L.length≤12
 e:∀e∈L,EvOk e
 g:GoesE (bI ⟨#[49,49,49]⟩) 0 L
 t:∀i,i≤L.length→0≤(L.take i).foldl (fun _ x=>x.at') 0∧(L.take i).foldl (fun _ x=>x.at') 0≤100000
 ok:∀i e,L[i]? = some e→(feedS (bI ⟨#[49,49,49]⟩) code (beginsS code) 200 200 (runS (bI ⟨#[49,49,49]⟩) code (beginsS code) 200 200 ⟨[],0,0,false⟩ (L.take i)) e).2.2=0
theorem strTo_take (ns : List Int) : ∀ k i, i ≤ k → k ≤ ns.length → (strTo ns k).1.take i = (strTo ns i).1 := by
  intro k
  induction k with
  | zero => intro i hi _; have : i = 0 := by omega
            subst this; rfl
  | succ k ih =>
    intro i hi hk
    by_cases e : i = k + 1
    · subst e; rw [List.take_of_length_le]; rw [strTo_len ns _ hk]; omega
    · rw [strTo_succ (n := ns[k]'(by omega)) (by simp)]
      show ((strTo ns k).1 ++ _).take i = _
      rw [List.take_append_of_le_length (by rw [strTo_len ns k (by omega)]; omega)]
      exact ih i (by omega) (by omega)
theorem StrK.of {s:ByteArray} {code:List In} (hN:NamK s code) {ns:List Int} (h64:∀n∈ns,In64 n):StrK code (strTo ns (min ns.length 12)).1:=by
 have hlen:=strTo_len ns (min ns.length 12) (by omega)
 have hg:=str_goes ns (min ns.length 12) (by omega)
 refine ⟨by omega,str_ok ns h64 _ (by omega),hg,?_,(hN.pat (by omega) hg).ok⟩
 intro i hi
 rw [hlen] at hi
 rw [strTo_take ns _ i hi (by omega),str_last]
 have:=strTo_now ns i
 omega
theorem owns_over {w:World} {base g n cap size i:Nat} {e:TypeId} {cs vs:List Value} (h:w.ownsRow base e size (.slice (some ⟨g,0,none⟩) n cap) n cs) (hi:i<n) (hl:cs.length=n*size) (hv:vs.length=size) :
  w.there g (i*size) vs.toArray.size∧∃cs',cs'.length=n*size∧(w.setCells g (i*size) vs).ownsRow base e size (.slice (some ⟨g,0,none⟩) n cap) n cs':=by
 have hle:i*size+size≤n*size:=by
  have:=Nat.mul_le_mul_right size (show i+1≤n by omega)
  rw [Nat.add_mul,Nat.one_mul] at this
  exact this
 refine ⟨?_,cs.take (i*size)++vs++cs.drop (i*size+size),?_,?_⟩
 ·intro k hk
  have hk':k<size:=by rwa [List.size_toArray,hv] at hk
  refine ⟨?_,h.frozenAt _⟩
  have hc:=owns_cell h (i*size+k) (v:=cs[i*size+k]'(by omega)) (by simp)
  rw [hc];rfl
 ·rw [List.length_append,List.length_append,List.length_take,List.length_drop,hl,hv,Nat.min_eq_left (by omega)];omega
 ·have e1:cs=cs.take (i*size)++(cs.drop (i*size)).take size++cs.drop (i*size+size):=by
   rw [List.append_assoc,←List.drop_drop,List.take_append_drop,List.take_append_drop]
  rw [e1] at h
  have:=owns_setCells vs (i*size) w (cs.take (i*size)) (cs.drop (i*size+size)) ((cs.drop (i*size)).take size) h (by rw [List.length_take,hl,Nat.min_eq_left (by omega)]) (by rw [List.length_take,List.length_drop,hl,hv,Nat.min_eq_left (by omega)])
  exact this
theorem mtsC_len0 (l:List Mt):(mtsC l).length=l.length*6:=by
 induction l with
 | nil=>rfl
 | cons y r ih =>
  have e:mtsC (y::r)=mtC y++mtsC r:=by simp [mtsC]
  have hl:(mtC y).length=6:=rfl
  rw [e,List.length_append,ih,hl,List.length_cons];omega
def FedC (w:World) (X:Nat) (sc:List Int) (live found:Int) (l:List In) (P:Nat→Prop) (p:Rst×List Mt×Int) (e:Ending) (w':World):Prop :=
 ∃mp mc,e=.returned (.tuple #[.slice mp p.2.1.length mc,.int .i64 p.2.2])∧w'.ownsRow w.heap.size 36 6 (.slice mp p.2.1.length mc) p.2.1.length (mtsC p.2.1)∧RunA w' X sc live found l (fun b=>P b∧∀g,mp=some ⟨g,0,none⟩→¬b=g) p.1∧Kp (fun b=>b=X) w w'
theorem feedC_any {w:World} {X:Nat} {sc:List Int} {live found:Int} {l:List In} {P:Nat→Prop} {r:Rst} (h:RunA w X sc live found l P r) (hP:∀b,w.heap.size≤b→P b) {e:Evt} (he:EvOk e) (hct:r.count≤1000000) :
  Calls Tryz.prog 21 #[.pointer (some ⟨X,0,none⟩),.agg #[.int .i64 e.at',.int .i64 e.kind,.int .i64 e.x,.int .i64 e.y,.int .i64 e.z]] w (FedC w X sc live found l P (feedS sc l (beginsS l) live found r e)):=by
 obtain ⟨g,cap,bv,hk,hc,p1,p2,p3,p4⟩:=h
 have hk0:=hk
 refine (feedX_any X sc live found g cap l bv (beginsS l) r e w hc hk he hct).mono ?_
 rintro e3 w3 ⟨v,rfl,hO,hk3,kk,hnl,hlw⟩
 obtain ⟨mp,mc,rfl⟩:=ownsLenX hO
 obtain ⟨⟨wv0,hm0⟩,_,_⟩:=hk0
 obtain ⟨⟨wv3,hm3⟩,_,_⟩:=id hk3
 have hnew:∀gm,mp=some ⟨gm,0,none⟩→w.heap.size≤gm:=by
  intro gm e
  subst e
  exact (hO.lt gm rfl).1
 refine ⟨mp,mc,rfl,hO,⟨g,cap,bv,hk3,hc,⟨p1,?_⟩,⟨p2,?_⟩,?_,?_⟩,kk⟩
 ·intro gm e h;have:=hnew gm e;have:=hm0.lt;omega
 ·intro gm e h;have:=hnew gm e;have:=hm0.code.lt;omega
 ·intro b hb
  refine ⟨p3 b hb,?_⟩
  intro gm e h;have:=hnew gm e;have:=(hm0.bo.lt b hb).2;omega
 ·intro v b hv hb
  refine ⟨?_,?_⟩
  ·rcases hlw v b hv hb with h|h
   ·exact hP b h
   ·exact p4 v b h hb
  ·intro gm e h
   subst h
   subst e
   rw [hm3.wt] at hv
   cases hv
   exact absurd (owns_types hm3.wo hO hb rfl) (by decide)
theorem compileO_any (sc s:ByteArray) (l:List In) (hsc:sc.size≤maxLen) (hs:s.size≤maxLen) (hp:ProgIs sc s l) (W:World) :
  Calls Tryz.prog 24 #[.string sc,.string s] W fun e w'=>∃g cap,e=.returned (.tuple #[.slice (some ⟨g,0,none⟩) l.length cap,.int .i64 0])∧w'.ownsRow W.heap.size 62 14 (.slice (some ⟨g,0,none⟩) l.length cap) l.length (codeC l)∧Nw W w':=by
 obtain ⟨_,hne,_⟩:=hp.v.all
 have h0:0<l.length:=List.length_pos_iff.2 hne
 refine (compileP_any sc s W hsc hs).mono ?_
 rintro e w' ⟨hk,⟨f,p,he,hf,hck⟩ | ⟨p,t,win,L,v,he,hck,⟨x,hx⟩,hkn,ho⟩⟩
 ·exact absurd (hp.ck f p hck) hf
 ·rw [hp.code t win L x hx hkn] at ho
  obtain ⟨g,cap,rfl⟩:=owns_some ho h0
  exact ⟨g,cap,he,ho,hk⟩
theorem codeOw {w:World} {base g n c:Nat} {l:List In} (ho:w.ownsRow base 62 14 (.slice (some ⟨g,0,none⟩) n c) n (codeC l)):Code' w g l :=
 Code'.of_cells (ho.lt g rfl).2 (fun j v hv=>owns_cell ho j hv)
theorem names4_at:∀k,k<10→∃s code,namesC[k]? = some (.string s)∧NamK s code∧4≤code.length∧code.length≤1000:=by
 intro k hk
 rcases (show k=0∨k=1∨k=2∨k=3∨k=4∨k=5∨k=6∨k=7∨k=8∨k=9 by omega) with rfl|rfl|rfl|rfl|rfl|rfl|rfl|rfl|rfl|rfl
 ·exact ⟨_,ncode0,rfl,⟨nprog0,by decide,nfree0⟩,by decide,by decide⟩
 ·exact ⟨_,ncode1,rfl,⟨nprog1,by decide,nfree1⟩,by decide,by decide⟩
 ·exact ⟨_,ncode2,rfl,⟨nprog2,by decide,nfree2⟩,by decide,by decide⟩
 ·exact ⟨_,ncode3,rfl,⟨nprog3,by decide,nfree3⟩,by decide,by decide⟩
 ·exact ⟨_,ncode4,rfl,⟨nprog4,by decide,nfree4⟩,by decide,by decide⟩
 ·exact ⟨_,ncode5,rfl,⟨nprog5,by decide,nfree5⟩,by decide,by decide⟩
 ·exact ⟨_,ncode6,rfl,⟨nprog6,by decide,nfree6⟩,by decide,by decide⟩
 ·exact ⟨_,ncode7,rfl,⟨nprog7,by decide,nfree7⟩,by decide,by decide⟩
 ·exact ⟨_,ncode8,rfl,⟨nprog8,by decide,nfree8⟩,by decide,by decide⟩
 ·exact ⟨_,ncode9,rfl,⟨nprog9,by decide,nfree9⟩,by decide,by decide⟩
theorem named4_any (c:Int) (w:World) (hc:In64 c):Calls Tryz.prog 15 #[.int .i64 c] w fun e w'=>∃s code,e=.returned (.string s)∧(NamK s code∧4≤code.length∧code.length≤1000)∧Nw w w':=by
 have HP:Hid (∀W,Calls Tryz.prog 14 #[.int .i64 c,.int .i64 10] W fun e w'=>e=.returned (.int .i64 (pickK c 10))∧w'=W):=fun W=>pickK_any c 10 W hc (by omega) (by omega)
 obtain ⟨k,hk⟩:∃k:Nat,pickK c 10=k:=⟨(pickK c 10).toNat,by have:=pickK_lt (c:=c) (n:=10) (by omega);omega⟩
 have hk10:k<10:=by have:=pickK_lt (c:=c) (n:=10) (by omega);omega
 rw [hk] at HP
 obtain ⟨s,code,hs,hN⟩:=names4_at k hk10
 have HN:Hid (NamK s code∧4≤code.length∧code.length≤1000):=hN
 have HB:Hid (Bx (w.alloc (.cells namesC.toArray 72)) w.heap.size namesC):=Bx.new w namesC _
 have hcell:=HB.out.cell hs
 unfold namesC at hcell
 have HK:Hid (∀o,Nw w (w.alloc o)):=fun o=>(Kp.refl _ _).alloc _
 have hki:(k:Int)<10:=by omega
 clear hk hs hN HB
 go_enter Tryz.func15,Tryz.ntmps15
 go_wp2_with fail
 refine (HP.out _).mono ?_
 rintro e1 w1 ⟨rfl,rfl⟩
 go_wp2
 go_ret
 exact ⟨s,code,rfl,HN.out,HK.out _⟩
end Go.Proofs.YtcboiapggnmpfabGreat
