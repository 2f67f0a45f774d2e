import Derived.Test.YtcboiapggnmpfabGreatQbx
namespace Go.Proofs.YtcboiapggnmpfabGreat
set_option maxRecDepth 100000
set_option maxHeartbeats 4000000
set_option linter.unusedSimpArgs false
set_option linter.unusedVariables false
open Go.RowKit
open Value (slice)
def RunA (w:World) (X:Nat) (sc:List Int) (live found:Int) (l:List In) (P:Nat→Prop) (r:Rst):Prop :=
 ∃g cap bv,RunK w X sc live found g cap l bv (beginsS l) r∧RunC sc live found l (beginsS l)∧P X∧P g∧(∀b,bv.ownBlock=some b→P b)∧(∀v b,w.cell? ⟨X,9,none⟩=some v→v.ownBlock=some b→P b)
theorem RunA.lt {w:World} {X:Nat} {sc:List Int} {live found:Int} {l:List In} {P:Nat→Prop} {r:Rst} (h:RunA w X sc live found l P r):X<w.heap.size:=by
 obtain ⟨_,_,_,⟨⟨_,h⟩,_,_⟩,_⟩:=h
 exact h.lt
theorem RunA.mono {w:World} {X:Nat} {sc:List Int} {live found:Int} {l:List In} {P Q:Nat→Prop} {r:Rst} (h:RunA w X sc live found l P r) (hPQ:∀b,b<w.heap.size→P b→Q b):RunA w X sc live found l Q r:=by
 have hX:=h.lt
 obtain ⟨g,cap,bv,hk,hc,p1,p2,p3,p4⟩:=h
 obtain ⟨⟨wv,hm⟩,_,_⟩:=id hk
 refine ⟨g,cap,bv,hk,hc,hPQ _ hX p1,hPQ _ hm.code.lt p2,fun b hb=>hPQ _ (hm.bo.lt b hb).2 (p3 b hb),fun v b hv hb=>hPQ _ ?_ (p4 v b hv hb)⟩
 rw [hm.wt] at hv
 cases hv
 exact (hm.wo.lt b hb).2
theorem RunA.kp {S:Nat→Prop} {w w':World} {X:Nat} {sc:List Int} {live found:Int} {l:List In} {P:Nat→Prop} {r:Rst} (h:RunA w X sc live found l P r) (k:Kp S w w') (hS:∀b,b<w.heap.size→P b→¬S b):RunA w' X sc live found l P r:=by
 have hX:=h.lt
 obtain ⟨g,cap,bv,⟨⟨wv,hm⟩,hn,hk⟩,hc,p1,p2,p3,p4⟩:=h
 refine ⟨g,cap,bv,⟨⟨wv,hm.kq k (hS _ hX p1) (hS _ hm.code.lt p2) (fun b hb=>hS _ (hm.bo.lt b hb).2 (p3 b hb)) (fun b hb=>hS _ (hm.wo.lt b hb).2 (p4 wv b hm.wt hb))⟩,hn,hk⟩,hc,p1,p2,p3,?_⟩
 intro v b hv hb
 rw [k.cell (p:=⟨X,9,none⟩) hX (hS _ hX p1)] at hv
 exact p4 v b hv hb
theorem RunA.nw {w w':World} {X:Nat} {sc:List Int} {live found:Int} {l:List In} {P:Nat→Prop} {r:Rst} (h:RunA w X sc live found l P r) (k:Nw w w'):RunA w' X sc live found l P r:=h.kp k (fun _ _ _ h=>h)
theorem NewRun.runA {w w':World} {X:Nat} {sc:List Int} {live found:Int} {l:List In} (h:NewRun w w' X sc live found l):RunA w' X sc live found l (fun b=>w.heap.size≤b∧b<w'.heap.size) ⟨[],0,0,false⟩:=by
 obtain ⟨g,cap,bv,hk,hg,hb⟩:=h.k
 obtain ⟨⟨wv,hm⟩,_,_⟩:=id hk
 refine ⟨g,cap,bv,hk,h.c,⟨h.x,hm.lt⟩,⟨hg,hm.code.lt⟩,fun b e=>⟨hb b e,(hm.bo.lt b e).2⟩,fun v b hv hb => ?_⟩
 rw [h.e] at hv
 cases hv
 cases hb
def FedA (w:World) (X:Nat) (sc:List Int) (live found:Int) (l:List In) (P:Nat→Prop) (p:Rst×List Mt×Int) (e:Ending) (w':World):Prop :=
 ∃mp mc,e=.returned (.tuple #[.slice mp p.2.1.length mc,.int .i64 p.2.2])∧w'.ownsRow w.heap.size 36 6 (.slice mp p.2.1.length mc) p.2.1.length (mtsC p.2.1)∧RunA w' X sc live found l P p.1∧Kp (fun b=>b=X) w w'∧(¬p.2.2=0→slice mp p.2.1.length mc=.slice none 0 0)
theorem feedA_any {w:World} {X:Nat} {sc:List Int} {live found:Int} {l:List In} {P:Nat→Prop} {r:Rst} (h:RunA w X sc live found l P r) (hP:∀b,w.heap.size≤b→P b) {e:Evt} (he:EvOk e) (hct:r.count≤1000000) :
  Calls Tryz.prog 21 #[.pointer (some ⟨X,0,none⟩),.agg #[.int .i64 e.at',.int .i64 e.kind,.int .i64 e.x,.int .i64 e.y,.int .i64 e.z]] w (FedA w X sc live found l P (feedS sc l (beginsS l) live found r e)):=by
 obtain ⟨g,cap,bv,hk,hc,p1,p2,p3,p4⟩:=h
 refine (feedX_any X sc live found g cap l bv (beginsS l) r e w hc hk he hct).mono ?_
 rintro e3 w3 ⟨v,rfl,hO,hk3,kk,hnl,hlw⟩
 obtain ⟨mp,mc,rfl⟩:=ownsLenX hO
 refine ⟨mp,mc,rfl,hO,⟨g,cap,bv,hk3,hc,p1,p2,p3,?_⟩,kk,hnl⟩
 intro v b hv hb
 rcases hlw v b hv hb with h|h
 ·exact hP b h
 ·exact p4 v b h hb
theorem RunA.live {w:World} {X:Nat} {sc:List Int} {live found:Int} {l:List In} {P:Nat→Prop} {r:Rst} (h:RunA w X sc live found l P r):Calls Tryz.prog 22 #[.pointer (some ⟨X,0,none⟩)] w fun e w'=>e=.returned (.int .i64 (r.ws.length:Int))∧w'=w:=by
 obtain ⟨g,cap,bv,⟨⟨wv,hm⟩,_,_⟩,_⟩:=h
 obtain ⟨p,c,rfl⟩:=ownsLenX hm.wo
 exact liveX_any X _ p c w hm.wt
theorem RunA.count {w:World} {X:Nat} {sc:List Int} {live found:Int} {l:List In} {P:Nat→Prop} {r:Rst} (h:RunA w X sc live found l P r):Calls Tryz.prog 23 #[.pointer (some ⟨X,0,none⟩)] w fun e w'=>e=.returned (.int .i64 (r.count:Int))∧w'=w:=by
 obtain ⟨g,cap,bv,⟨⟨wv,hm⟩,_,_⟩,_⟩:=h
 exact countX_any X _ w hm.ct
structure NamK (s:ByteArray) (code:List In):Prop where
 p:ProgIs ⟨#[49,49,49]⟩ s code
 z:s.size≤1000
 f:freeB code (beginsS code) 12=true
def namesC:List Value:=[.string ⟨#[97,65,32,98,91,120,62,65,120,93]⟩,.string ⟨#[97,65,46,42,98,91,120,62,65,120,93]⟩,.string ⟨#[97,65,46,42,98,66,91,120,62,65,120,93,46,42,99,91,120,60,66,120,93]⟩,.string ⟨#[40,97,65,124,97,66,41,98,42,99]⟩,.string ⟨#[40,97,65,32,98,124,98,66,32,97,41,99,67]⟩,.string ⟨#[97,65,40,98,91,120,61,65,120,93,124,99,91,120,35,65,120,93,41,43]⟩,.string ⟨#[97,65,91,120,62,49,93,98,123,48,50,125,99,66,91,116,60,65,116,43,57,93]⟩,.string ⟨#[40,97,65,124,97,65,46,41,98,66,91,120,60,65,120,42,50,93,64,50,48]⟩,.string ⟨#[99,65,46,123,48,51,125,99,66,91,120,61,65,120,45,49,93]⟩,.string ⟨#[97,65,46,42,97,66,91,120,62,65,120,93,64,49,50]⟩]
theorem names_at:∀k,k<10→∃s code,namesC[k]? = some (.string s)∧NamK s code:=by
 intro k hk
 rcases (show k=0∨k=1∨k=2∨k=3∨k=4∨k=5∨k=6∨k=7∨k=8∨k=9 by omega) with rfl|rfl|rfl|rfl|rfl|rfl|rfl|rfl|rfl|rfl
 ·exact ⟨_,ncode0,rfl,nprog0,by decide,nfree0⟩
 ·exact ⟨_,ncode1,rfl,nprog1,by decide,nfree1⟩
 ·exact ⟨_,ncode2,rfl,nprog2,by decide,nfree2⟩
 ·exact ⟨_,ncode3,rfl,nprog3,by decide,nfree3⟩
 ·exact ⟨_,ncode4,rfl,nprog4,by decide,nfree4⟩
 ·exact ⟨_,ncode5,rfl,nprog5,by decide,nfree5⟩
 ·exact ⟨_,ncode6,rfl,nprog6,by decide,nfree6⟩
 ·exact ⟨_,ncode7,rfl,nprog7,by decide,nfree7⟩
 ·exact ⟨_,ncode8,rfl,nprog8,by decide,nfree8⟩
 ·exact ⟨_,ncode9,rfl,nprog9,by decide,nfree9⟩
theorem NamK.pat {s:ByteArray} {code:List In} (h:NamK s code) {L:List Evt} (hL:L.length≤12) (hg:GoesE (bI ⟨#[49,49,49]⟩) 0 L):PatK s code L :=
 ⟨h.p,h.z,fun i e hi=>(free_of h.f hL hg hi).1⟩
theorem namedK_any (c:Int) (w:World) (hc:In64 c):Calls Tryz.prog 15 #[.int .i64 c] w fun e w'=>∃s code,e=.returned (.string s)∧NamK s code∧Nw w w':=by
 have HP:Hid (∀W,Calls Tryz.prog 14 #[.int .i64 c,.int .i64 10] W fun e w'=>e=.returned (.int .i64 (pickK c 10))∧w'=W):=fun W=>pickK_any c 10 W hc (by omega) (by omega)
 obtain ⟨k,hk⟩:∃k:Nat,pickK c 10=k:=⟨(pickK c 10).toNat,by have:=pickK_lt (c:=c) (n:=10) (by omega);omega⟩
 have hk10:k<10:=by have:=pickK_lt (c:=c) (n:=10) (by omega);omega
 rw [hk] at HP
 obtain ⟨s,code,hs,hN⟩:=names_at k hk10
 have HN:Hid (NamK s code):=hN
 have HB:Hid (Bx (w.alloc (.cells namesC.toArray 72)) w.heap.size namesC):=Bx.new w namesC _
 have hcell:=HB.out.cell hs
 unfold namesC at hcell
 have HK:Hid (∀o,Nw w (w.alloc o)):=fun o=>(Kp.refl _ _).alloc _
 have hki:(k:Int)<10:=by omega
 clear hk hs hN HB
 go_enter Tryz.func15,Tryz.ntmps15
 go_wp2_with fail
 refine (HP.out _).mono ?_
 rintro e1 w1 ⟨rfl,rfl⟩
 go_wp2
 go_ret
 exact ⟨s,code,rfl,HN.out,HK.out _⟩
theorem evsR_get (l:List Evt):∀(i j:Nat) (x:Evt),l[i]? = some x→j<5→(evsR l)[i*5+j]? = (evC5 x)[j]?:=by
 induction l with
 | nil=>intro i j x h;simp at h
 | cons y r ih =>
  intro i j x h hj
  have e:evsR (y::r)=evC5 y++evsR r:=by simp [evsR]
  have hl:(evC5 y).length=5:=rfl
  rw [e]
  cases i with
  | zero=>simp at h;subst h;rw [List.getElem?_append_left (by omega)];simp
  | succ i =>
   simp at h
   rw [List.getElem?_append_right (by omega),hl]
   have:(i+1)*5+j - 5=i*5+j:=by omega
   rw [this];exact ih i j x h hj
section
section
variable {l:List In} {hand:Nmb} {t:Thr}
theorem goF_tn (hn:l.length≤1000) (hh:In64 hand.n∧EvOk hand.e) (ht:TOk t) (hA:AllIns l):∀(m:Nat) (s:Tn),TnOk l.length s→TnOk l.length (goF l hand t m s):=by
 intro m
 induction m with
 | zero=>intro s h;exact h
 | succ m ih =>
  intro s h
  unfold goF
  split
  ·exact h
  ·split
   ·exact h
   ·rename_i p hp
    split
    ·exact h
    ·rename_i x hx
     obtain ⟨⟨a,ha,hal⟩,hw⟩:=h.o p (List.mem_of_getLast? hp)
     have hb:TnOk l.length { s with opn:=s.opn.dropLast }:=⟨h.w,h.e,h.v,fun u hu=>h.o u (List.dropLast_subset _ hu)⟩
     have hx':l[a]? = some x:=by rw [ha] at hx;simpa using hx
     rw [ha]
     exact ih _ (lvS_ok rfl hn hb hh ht hA hx' hw).1
theorem goOn_cr (hn:l.length≤1000) (hh:In64 hand.n∧EvOk hand.e) (ht:TOk t) (hA:AllIns l) {c:Crw×Crw} (h1:CrOk c.1) (h2:CrOk c.2):CrOk (goOnS l hand c t).1∧CrOk (goOnS l hand c t).2:=by
 unfold goOnS
 split
 ·exact ⟨h1,h2⟩
 ·rename_i x hx
  split
  ·have s0:TnOk l.length ⟨List.replicate (16*l.length) false,[],c.1,c.2⟩:=⟨h1,h2,by simp,fun p hp=>by simp at hp⟩
   have e1:t.at'+1=((t.at'.toNat+1:Nat):Int):=by have:=ht.a;omega
   have s1:=rchS_ok s0 (t.at'.toNat+1) 0 (by omega)
   rw [e1]
   have s2:=goF_tn hn hh ht hA (1+16*l.length) _ s1
   exact ⟨s2.w,s2.e⟩
  ·exact ⟨h1,h2⟩
end
theorem fold_cr {l:List In} {hand:Nmb} (hn:l.length≤1000) (hh:In64 hand.n∧EvOk hand.e) (hA:AllIns l):∀(ts:List Thr) (c:Crw×Crw),(∀t∈ts,TOk t)→CrOk c.1→CrOk c.2→CrOk (ts.foldl (goOnS l hand) c).1∧CrOk (ts.foldl (goOnS l hand) c).2:=by
 intro ts
 induction ts with
 | nil=>intro c _ h1 h2;exact ⟨h1,h2⟩
 | cons t ts ih =>
  intro c ht h1 h2
  obtain ⟨a,b⟩:=goOn_cr hn hh (ht t (by simp)) hA h1 h2
  exact ih _ (fun u hu=>ht u (by simp [hu])) a b
theorem mt_of {t:Thr} (h:TOk t) {n:Int} (hn:In64 n):MtOk (matchT t n) :=
 ⟨h.k.f,hn,(h.k.h 0).1,(h.k.h 1).1,(h.k.h 2).1,(h.k.h 3).1⟩
theorem feed_mts {sc:List Int} {l:List In} {bs:List Nat} {live found:Int} (hc:RunC sc live found l bs) {r:Rst} (hw:∀u∈r.ws,TOk u) {e:Evt} (he:EvOk e) (hct:r.count≤1000000):∀m∈(feedS sc l bs live found r e).2.1,MtOk m:=by
 intro m hm
 unfold feedS at hm
 split at hm
 ·simp at hm
 ·split at hm
  ·simp at hm
  ·rename_i h2
   split at hm
   ·simp at hm
   ·simp only [List.mem_map] at hm
    obtain ⟨t,ht,rfl⟩:=hm
    have hg:goodE sc e=true:=by
     simp only [not_or,Bool.not_eq_false] at h2
     exact h2.2
    have htm:TimeOk e.at':=by
     unfold goodE at hg
     simp only [Bool.and_eq_true,decide_eq_true_eq] at hg
     unfold TimeOk
     omega
    have hh:In64 (r.count:Int)∧EvOk e:=⟨by unfold In64;omega,he⟩
    have c0:∀n:Int,n≤10000→CrOk ⟨[],n,false⟩:=fun n hn=>⟨hn,by simp,fun u hu=>by simp at hu⟩
    obtain ⟨f1,f2⟩:=fold_cr (hand:=⟨r.count,e⟩) hc.n hh hc.a r.ws (⟨[],live,false⟩,⟨[],found,false⟩) hw (c0 _ hc.lv) (c0 _ hc.fd)
    obtain ⟨g1,g2⟩:=fold_cr (hand:=⟨r.count,e⟩) hc.n hh hc.a (bs.map (fun b:Nat=>newT (b:Int) ⟨r.count,e⟩)) _ (fun u hu=>by
     obtain ⟨b,hb,rfl⟩:=List.mem_map.1 hu
     exact newT_ok hh htm (by have:=hc.bl b hb;have:=hc.n;omega)) f1 f2
    exact mt_of (g2.t t ht) (by unfold In64;omega)
theorem feed_len {sc:List Int} {l:List In} {bs:List Nat} {live found:Int} (hc:RunC sc live found l bs) {r:Rst} (hw:∀u∈r.ws,TOk u) {e:Evt} (he:EvOk e) (hct:r.count≤1000000):(feedS sc l bs live found r e).2.1.length≤10000:=by
 unfold feedS
 split
 ·simp
 ·split
  ·simp
  ·rename_i h2
   split
   ·simp
   ·simp only [List.length_map]
    have hg:goodE sc e=true:=by
     simp only [not_or,Bool.not_eq_false] at h2
     exact h2.2
    have htm:TimeOk e.at':=by
     unfold goodE at hg
     simp only [Bool.and_eq_true,decide_eq_true_eq] at hg
     unfold TimeOk
     omega
    have hh:In64 (r.count:Int)∧EvOk e:=⟨by unfold In64;omega,he⟩
    have c0:∀n:Int,n≤10000→CrOk ⟨[],n,false⟩:=fun n hn=>⟨hn,by simp,fun u hu=>by simp at hu⟩
    obtain ⟨f1,f2⟩:=fold_cr (hand:=⟨r.count,e⟩) hc.n hh hc.a r.ws (⟨[],live,false⟩,⟨[],found,false⟩) hw (c0 _ hc.lv) (c0 _ hc.fd)
    obtain ⟨g1,g2⟩:=fold_cr (hand:=⟨r.count,e⟩) hc.n hh hc.a (bs.map (fun b:Nat=>newT (b:Int) ⟨r.count,e⟩)) _ (fun u hu=>by
     obtain ⟨b,hb,rfl⟩:=List.mem_map.1 hu
     exact newT_ok hh htm (by have:=hc.bl b hb;have:=hc.n;omega)) f1 f2
    exact g2.n
end
theorem Eb.evs {W0 wr:World} {lp:Option Addr} {n c:Nat} {L:List Evt} (h:Eb W0 wr (.slice lp n c) L):EvsP wr lp L∧(∀g,lp=some ⟨g,0,none⟩→g<wr.heap.size):=by
 refine ⟨?_,?_⟩
 ·intro hne
  obtain ⟨g,c',e⟩:=owns_some h.own (List.length_pos_iff.2 hne)
  simp only [Value.slice.injEq] at e
  obtain ⟨rfl,rfl,rfl⟩:=e
  refine ⟨g,rfl,(h.own.lt g rfl).2,?_⟩
  intro i x hx j v hv
  have hj:j<5:=by have:=(List.getElem?_eq_some_iff.1 hv).1;simpa [evC5] using this
  exact owns_cell h.own (i*5+j) (by rw [evsR_get L i j x hx hj];exact hv)
 ·intro g e
  subst e
  exact (h.own.lt g rfl).2
theorem mtsC_get (l:List Mt):∀(i j:Nat) (x:Mt),l[i]? = some x→j<6→(mtsC l)[i*6+j]? = (mtC x)[j]?:=by
 induction l with
 | nil=>intro i j x h;simp at h
 | cons y r ih =>
  intro i j x h hj
  have e:mtsC (y::r)=mtC y++mtsC r:=by simp [mtsC]
  have hl:(mtC y).length=6:=rfl
  rw [e]
  cases i with
  | zero=>simp at h;subst h;rw [List.getElem?_append_left (by omega)];simp
  | succ i =>
   simp at h
   rw [List.getElem?_append_right (by omega),hl]
   have:(i+1)*6+j - 6=i*6+j:=by omega
   rw [this];exact ih i j x h hj
theorem mts_of {w:World} {base:Nat} {mp:Option Addr} {mc:Nat} {l:List Mt} (h:w.ownsRow base 36 6 (.slice mp l.length mc) l.length (mtsC l)):MtsP w mp l:=by
 intro hne
 obtain ⟨g,c',e⟩:=owns_some h (List.length_pos_iff.2 hne)
 simp only [Value.slice.injEq,true_and] at e
 obtain ⟨rfl,rfl⟩:=e
 refine ⟨g,rfl,(h.lt g rfl).2,?_⟩
 intro i x hx j v hv
 have hj:j<6:=by have:=(List.getElem?_eq_some_iff.1 hv).1;simpa [mtC] using this
 exact owns_cell h (i*6+j) (by rw [mtsC_get l i j x hx hj];exact hv)
structure StrK (code:List In) (L:List Evt):Prop where
 n:L.length≤12
 e:∀e∈L,EvOk e
 g:GoesE (bI ⟨#[49,49,49]⟩) 0 L
 t:∀i,i≤L.length→0≤(L.take i).foldl (fun _ x=>x.at') 0∧(L.take i).foldl (fun _ x=>x.at') 0≤100000
 ok:∀i e,L[i]? = some e→(feedS (bI ⟨#[49,49,49]⟩) code (beginsS code) 200 200 (runS (bI ⟨#[49,49,49]⟩) code (beginsS code) 200 200 ⟨[],0,0,false⟩ (L.take i)) e).2.2=0
theorem strTo_take (ns : List Int) : ∀ k i, i ≤ k → k ≤ ns.length → (strTo ns k).1.take i = (strTo ns i).1 := by
  intro k
  induction k with
  | zero => intro i hi _; have : i = 0 := by omega
            subst this; rfl
  | succ k ih =>
    intro i hi hk
    by_cases e : i = k + 1
    · subst e; rw [List.take_of_length_le]; rw [strTo_len ns _ hk]; omega
    · rw [strTo_succ (n := ns[k]'(by omega)) (by simp)]
      show ((strTo ns k).1 ++ _).take i = _
      rw [List.take_append_of_le_length (by rw [strTo_len ns k (by omega)]; omega)]
      exact ih i (by omega) (by omega)
theorem StrK.of {s:ByteArray} {code:List In} (hN:NamK s code) {ns:List Int} (h64:∀n∈ns,In64 n):StrK code (strTo ns (min ns.length 12)).1:=by
 have hlen:=strTo_len ns (min ns.length 12) (by omega)
 have hg:=str_goes ns (min ns.length 12) (by omega)
 refine ⟨by omega,str_ok ns h64 _ (by omega),hg,?_,(hN.pat (by omega) hg).ok⟩
 intro i hi
 rw [hlen] at hi
 rw [strTo_take ns _ i hi (by omega),str_last]
 have:=strTo_now ns i
 omega
section
theorem addC_mono (c:Crw) (t:Thr):c.l.length≤(addC c t).l.length∧(c.over=true→(addC c t).over=true):=by
 unfold addC
 split
 ·exact ⟨Nat.le_refl _,id⟩
 ·split
  ·exact ⟨Nat.le_refl _,fun _=>rfl⟩
  ·have:=plcT_le c.l t
   exact ⟨by simp;omega,id⟩
theorem lvS_mono (hand:Nmb) (t:Thr) (s:Tn) (a:Int) (anew:Nat) (x:In):s.wait.l.length≤(lvS hand t s a anew x).wait.l.length∧s.ended.l.length≤(lvS hand t s a anew x).ended.l.length∧(s.wait.over=true→(lvS hand t s a anew x).wait.over=true)∧(s.ended.over=true→(lvS hand t s a anew x).ended.over=true):=by
 unfold lvS
 split
 ·exact ⟨(addC_mono _ _).1,Nat.le_refl _,(addC_mono _ _).2,id⟩
 split
 ·split
  ·rw [(rchS_wait _ _ _).1,(rchS_wait _ _ _).2];exact ⟨Nat.le_refl _,Nat.le_refl _,id,id⟩
  ·exact ⟨Nat.le_refl _,Nat.le_refl _,id,id⟩
 split
 ·split
  ·rw [(rchS_wait _ _ _).1,(rchS_wait _ _ _).2];exact ⟨Nat.le_refl _,Nat.le_refl _,id,id⟩
  ·exact ⟨Nat.le_refl _,Nat.le_refl _,id,id⟩
 split
 ·rw [(rchS_wait _ _ _).1,(rchS_wait _ _ _).2];exact ⟨Nat.le_refl _,Nat.le_refl _,id,id⟩
 split
 ·rw [(rchS_wait _ _ _).1,(rchS_wait _ _ _).2];exact ⟨Nat.le_refl _,Nat.le_refl _,id,id⟩
 split
 ·rw [(rchS_wait _ _ _).1,(rchS_wait _ _ _).2,(rchS_wait _ _ _).1,(rchS_wait _ _ _).2];exact ⟨Nat.le_refl _,Nat.le_refl _,id,id⟩
 split
 ·exact ⟨Nat.le_refl _,(addC_mono _ _).1,id,(addC_mono _ _).2⟩
 ·exact ⟨Nat.le_refl _,Nat.le_refl _,id,id⟩
theorem goF_mono (code:List In) (hand:Nmb) (t:Thr):∀(m:Nat) (s:Tn),s.wait.l.length≤(goF code hand t m s).wait.l.length∧s.ended.l.length≤(goF code hand t m s).ended.l.length∧(s.wait.over=true→(goF code hand t m s).wait.over=true)∧(s.ended.over=true→(goF code hand t m s).ended.over=true):=by
 intro m
 induction m with
 | zero=>intro s;exact ⟨Nat.le_refl _,Nat.le_refl _,id,id⟩
 | succ m ih =>
  intro s
  unfold goF
  split
  ·exact ⟨Nat.le_refl _,Nat.le_refl _,id,id⟩
  ·split
   ·exact ⟨Nat.le_refl _,Nat.le_refl _,id,id⟩
   ·rename_i p hp
    split
    ·exact ⟨Nat.le_refl _,Nat.le_refl _,id,id⟩
    ·rename_i x hx
     obtain ⟨a1,a2,a3,a4⟩:=lvS_mono hand t { s with opn:=s.opn.dropLast } p.1 p.2 x
     obtain ⟨b1,b2,b3,b4⟩:=ih (lvS hand t { s with opn:=s.opn.dropLast } p.1 p.2 x)
     exact ⟨Nat.le_trans a1 b1,Nat.le_trans a2 b2,fun h=>b3 (a3 h),fun h=>b4 (a4 h)⟩
theorem goF_ovr (code:List In) (hand:Nmb) (t:Thr) (m:Nat) (s:Tn) (h:s.wait.over=true∨s.ended.over=true):goF code hand t m s=s:=by
 cases m with
 | zero=>rfl
 | succ m=>unfold goF;rw [if_pos h]
section
variable (lw le:Nat)
structure SimG (c d:Crw×Crw):Prop where
 w:d.1.l=c.1.l
 e:d.2.l=c.2.l
 wo:d.1.over=false
 eo:d.2.over=false
 wl:d.1.l.length≤lw
 el:d.2.l.length≤le
 wm:d.1.most=lw
 em:d.2.most=le
def SimB (c d:Crw×Crw):Prop:=(d.1.over=true∨d.2.over=true)∧(lw<c.1.l.length∨le<c.2.l.length)
theorem sim_add {c d:Crw} {n:Nat} (hl:d.l=c.l) (ho:d.over=false) (hn:d.l.length≤n) (hm:d.most=n) (t:Thr) (hc:(addC c t).over=false) :
  ((addC d t).l=(addC c t).l∧(addC d t).over=false∧(addC d t).l.length≤n∧(addC d t).most=n)∨((addC d t).over=true∧n<(addC c t).l.length):=by
 unfold addC at hc ⊢
 rw [hl,hm]
 by_cases h1:c.l[plcT c.l t]? = some t
 ·rw [if_pos h1,if_pos h1];left;exact ⟨hl,ho,hn,hm⟩
 ·rw [if_neg h1] at hc
  rw [if_neg h1,if_neg h1]
  by_cases h2:c.most≤c.l.length
  ·rw [if_pos h2] at hc;simp at hc
  ·rw [if_neg h2]
   have hp:=plcT_le c.l t
   rw [hl] at hn
   by_cases h3:(n:Int)≤c.l.length
   ·rw [if_pos h3]
    right
    refine ⟨rfl,?_⟩
    simp
    omega
   ·rw [if_neg h3]
    left
    refine ⟨rfl,ho,?_,rfl⟩
    simp
    omega
structure SimT (s s':Tn):Prop where
 v:s'.vis=s.vis
 o:s'.opn=s.opn
 g:SimG lw le (s.wait,s.ended) (s'.wait,s'.ended)
variable {lw le}
theorem SimT.rch {s s':Tn} (h:SimT lw le s s') (a:Int) (an:Nat):SimT lw le (rchS s a an) (rchS s' a an):=by
 unfold rchS
 rw [h.v,h.o]
 split
 ·exact ⟨rfl,rfl,h.g⟩
 ·exact ⟨h.v,h.o,h.g⟩
theorem SimT.go {code:List In} {hand:Nmb} {t:Thr}:∀(m:Nat) (s s':Tn),SimT lw le s s'→(goF code hand t m s).wait.over=false→(goF code hand t m s).ended.over=false →
  SimT lw le (goF code hand t m s) (goF code hand t m s')∨SimB lw le ((goF code hand t m s).wait,(goF code hand t m s).ended) ((goF code hand t m s').wait,(goF code hand t m s').ended):=by
 intro m
 induction m with
 | zero=>intro s s' h _ _;exact Or.inl h
 | succ m ih =>
  intro s s' h hw he
  have nw:¬(s'.wait.over=true∨s'.ended.over=true):=by have:=h.g.wo;have:=h.g.eo;simp_all
  by_cases ov:s.wait.over=true∨s.ended.over=true
  ·have e:=goF_ovr code hand t (m+1) s ov
   rw [e] at hw he
   rcases ov with o|o
   ·rw [o] at hw;cases hw
   ·rw [o] at he;cases he
  unfold goF at hw he ⊢
  rw [if_neg ov] at hw he
  rw [if_neg ov,if_neg nw,h.o]
  cases hp:s.opn.getLast? with
  | none=>exact Or.inl h
  | some p =>
   simp only [hp] at hw he ⊢
   cases hx:code[p.1.toNat]? with
   | none=>exact Or.inl h
   | some x =>
    simp only [hx] at hw he ⊢
    have hb:SimT lw le { s with opn:=s.opn.dropLast } { s' with opn:=s.opn.dropLast }:=⟨h.v,rfl,h.g⟩
    have key:SimT lw le (lvS hand t { s with opn:=s.opn.dropLast } p.1 p.2 x) (lvS hand t { s' with opn:=s.opn.dropLast } p.1 p.2 x) ∨
      SimB lw le ((lvS hand t { s with opn:=s.opn.dropLast } p.1 p.2 x).wait,(lvS hand t { s with opn:=s.opn.dropLast } p.1 p.2 x).ended) ((lvS hand t { s' with opn:=s.opn.dropLast } p.1 p.2 x).wait,(lvS hand t { s' with opn:=s.opn.dropLast } p.1 p.2 x).ended):=by
     have mono:=goF_mono code hand t m (lvS hand t { s with opn:=s.opn.dropLast } p.1 p.2 x)
     have hw1:(lvS hand t { s with opn:=s.opn.dropLast } p.1 p.2 x).wait.over=false:=by
      cases hq:(lvS hand t { s with opn:=s.opn.dropLast } p.1 p.2 x).wait.over with
      | false=>rfl
      | true=>have:=mono.2.2.1 hq;rw [this] at hw;cases hw
     have he1:(lvS hand t { s with opn:=s.opn.dropLast } p.1 p.2 x).ended.over=false:=by
      cases hq:(lvS hand t { s with opn:=s.opn.dropLast } p.1 p.2 x).ended.over with
      | false=>rfl
      | true=>have:=mono.2.2.2 hq;rw [this] at he;cases he
     clear mono hw he ih
     unfold lvS at hw1 he1 ⊢
     by_cases o0:x.op=0
     ·rw [if_pos o0] at hw1
      rw [if_pos o0,if_pos o0]
      rcases sim_add h.g.w h.g.wo h.g.wl h.g.wm (threadS hand t p.1 p.2) hw1 with ⟨a,b,c,d⟩ | ⟨a,b⟩
      ·exact Or.inl ⟨h.v,rfl,⟨a,h.g.e,b,h.g.eo,c,h.g.el,d,h.g.em⟩⟩
      ·exact Or.inr ⟨Or.inl a,Or.inl b⟩
     rw [if_neg o0,if_neg o0]
     rw [if_neg o0] at he1
     by_cases o1:x.op=1
     ·rw [if_pos o1,if_pos o1]
      left
      split
      ·exact hb.rch _ _
      ·exact hb
     rw [if_neg o1,if_neg o1]
     rw [if_neg o1] at he1
     by_cases o2:x.op=2
     ·rw [if_pos o2,if_pos o2]
      left
      split
      ·exact hb.rch _ _
      ·exact hb
     rw [if_neg o2,if_neg o2]
     rw [if_neg o2] at he1
     by_cases o3:x.op=3
     ·rw [if_pos o3,if_pos o3];exact Or.inl (hb.rch _ _)
     rw [if_neg o3,if_neg o3]
     rw [if_neg o3] at he1
     by_cases o4:x.op=4
     ·rw [if_pos o4,if_pos o4];exact Or.inl (hb.rch _ _)
     rw [if_neg o4,if_neg o4]
     rw [if_neg o4] at he1
     by_cases o5:x.op=5
     ·rw [if_pos o5,if_pos o5];exact Or.inl ((hb.rch _ _).rch _ _)
     rw [if_neg o5,if_neg o5]
     rw [if_neg o5] at he1
     by_cases o6:x.op=6
     ·rw [if_pos o6] at he1
      rw [if_pos o6,if_pos o6]
      rcases sim_add h.g.e h.g.eo h.g.el h.g.em (threadS hand t 0 p.2) he1 with ⟨a,b,c,d⟩ | ⟨a,b⟩
      ·exact Or.inl ⟨h.v,rfl,⟨h.g.w,a,h.g.wo,b,h.g.wl,c,h.g.wm,d⟩⟩
      ·exact Or.inr ⟨Or.inr a,Or.inr b⟩
     rw [if_neg o6,if_neg o6]
     exact Or.inl hb
    rcases key with k|k
    ·exact ih _ _ k hw he
    ·right
     have mono:=goF_mono code hand t m (lvS hand t { s with opn:=s.opn.dropLast } p.1 p.2 x)
     rw [goF_ovr code hand t m (lvS hand t { s' with opn:=s.opn.dropLast } p.1 p.2 x) k.1]
     refine ⟨k.1,?_⟩
     rcases k.2 with q|q
     ·exact Or.inl (Nat.lt_of_lt_of_le q mono.1)
     ·exact Or.inr (Nat.lt_of_lt_of_le q mono.2.1)
theorem goOn_mono (code:List In) (hand:Nmb) (c:Crw×Crw) (t:Thr):c.1.l.length≤(goOnS code hand c t).1.l.length∧c.2.l.length≤(goOnS code hand c t).2.l.length∧(c.1.over=true→(goOnS code hand c t).1.over=true)∧(c.2.over=true→(goOnS code hand c t).2.over=true):=by
 unfold goOnS
 split
 ·exact ⟨Nat.le_refl _,Nat.le_refl _,id,id⟩
 ·split
  ·have:=goF_mono code hand t (1+16*code.length) (rchS ⟨List.replicate (16*code.length) false,[],c.1,c.2⟩ (t.at'+1) 0)
   rw [(rchS_wait _ _ _).1,(rchS_wait _ _ _).2] at this
   exact this
  ·exact ⟨Nat.le_refl _,Nat.le_refl _,id,id⟩
theorem sim_goOn {code:List In} {hand:Nmb} {c d:Crw×Crw} (t:Thr) (h:SimG lw le c d∨SimB lw le c d) (hw:(goOnS code hand c t).1.over=false) (he:(goOnS code hand c t).2.over=false) :
  SimG lw le (goOnS code hand c t) (goOnS code hand d t)∨SimB lw le (goOnS code hand c t) (goOnS code hand d t):=by
 rcases h with h|h
 ·unfold goOnS at hw he ⊢
  cases hx:code[t.at'.toNat]? with
  | none=>exact Or.inl h
  | some x =>
   simp only [hx] at hw he ⊢
   by_cases hk:x.a=4∨x.a=hand.e.kind
   ·rw [if_pos hk] at hw he
    rw [if_pos hk,if_pos hk]
    have s0:SimT lw le ⟨List.replicate (16*code.length) false,[],c.1,c.2⟩ ⟨List.replicate (16*code.length) false,[],d.1,d.2⟩:=⟨rfl,rfl,h⟩
    rcases SimT.go (code:=code) (hand:=hand) (t:=t) (1+16*code.length) _ _ (s0.rch (t.at'+1) 0) hw he with k|k
    ·exact Or.inl k.g
    ·exact Or.inr k
   ·rw [if_neg hk,if_neg hk];exact Or.inl h
 ·right
  have m1:=goOn_mono code hand c t
  have m2:=goOn_mono code hand d t
  refine ⟨?_,?_⟩
  ·rcases h.1 with q|q
   ·exact Or.inl (m2.2.2.1 q)
   ·exact Or.inr (m2.2.2.2 q)
  ·rcases h.2 with q|q
   ·exact Or.inl (Nat.lt_of_lt_of_le q m1.1)
   ·exact Or.inr (Nat.lt_of_lt_of_le q m1.2.1)
theorem fold_mono (code:List In) (hand:Nmb):∀(ts:List Thr) (c:Crw×Crw),(c.1.over=true→(ts.foldl (goOnS code hand) c).1.over=true)∧(c.2.over=true→(ts.foldl (goOnS code hand) c).2.over=true):=by
 intro ts
 induction ts with
 | nil=>intro c;exact ⟨id,id⟩
 | cons t ts ih =>
  intro c
  have:=goOn_mono code hand c t
  exact ⟨fun h=>(ih _).1 (this.2.2.1 h),fun h=>(ih _).2 (this.2.2.2 h)⟩
theorem sim_fold {code:List In} {hand:Nmb}:∀(ts:List Thr) (c d:Crw×Crw),(SimG lw le c d∨SimB lw le c d)→(ts.foldl (goOnS code hand) c).1.over=false→(ts.foldl (goOnS code hand) c).2.over=false →
  SimG lw le (ts.foldl (goOnS code hand) c) (ts.foldl (goOnS code hand) d)∨SimB lw le (ts.foldl (goOnS code hand) c) (ts.foldl (goOnS code hand) d):=by
 intro ts
 induction ts with
 | nil=>intro c d h _ _;exact h
 | cons t ts ih =>
  intro c d h hw he
  rw [List.foldl_cons] at hw he
  rw [List.foldl_cons,List.foldl_cons]
  have fm:=fold_mono code hand ts (goOnS code hand c t)
  have hw1:(goOnS code hand c t).1.over=false:=by
   cases hq:(goOnS code hand c t).1.over with
   | false=>rfl
   | true=>have:=fm.1 hq;rw [this] at hw;cases hw
  have he1:(goOnS code hand c t).2.over=false:=by
   cases hq:(goOnS code hand c t).2.over with
   | false=>rfl
   | true=>have:=fm.2 hq;rw [this] at he;cases he
  exact ih _ _ (sim_goOn t h hw1 he1) hw he
end
theorem feed_lim {sc:List Int} {l:List In} {bs:List Nat} {live found:Int} {lw le:Nat} {r:Rst} {e:Evt} (h:(feedS sc l bs live found r e).2.2=0) :
  ((feedS sc l bs live found r e).1.ws.length≤lw∧(feedS sc l bs live found r e).2.1.length≤le∧feedS sc l bs lw le r e=feedS sc l bs live found r e) ∨
  ((lw<(feedS sc l bs live found r e).1.ws.length∨le<(feedS sc l bs live found r e).2.1.length)∧feedS sc l bs lw le r e=(⟨[],r.count,r.last,true⟩,[],11)):=by
 unfold feedS at h ⊢
 by_cases c1:r.spent=true
 ·rw [if_pos c1] at h;simp at h
 rw [if_neg c1] at h
 rw [if_neg c1,if_neg c1]
 by_cases c2:e.at'<r.last∨goodE sc e=false
 ·rw [if_pos c2] at h;simp at h
 rw [if_neg c2] at h
 rw [if_neg c2,if_neg c2]
 by_cases c3:((stepS l ⟨r.count,e⟩ r.ws bs live found).1.over||(stepS l ⟨r.count,e⟩ r.ws bs live found).2.over)=true
 ·rw [if_pos c3] at h;simp at h
 rw [if_neg c3]
 simp only [Bool.or_eq_true,not_or,Bool.not_eq_true] at c3
 have s0:SimG lw le ((⟨[],live,false⟩,⟨[],found,false⟩):Crw×Crw) (⟨[],(lw:Int),false⟩,⟨[],(le:Int),false⟩):=⟨rfl,rfl,rfl,rfl,by simp,by simp,rfl,rfl⟩
 have fm:=fold_mono l ⟨r.count,e⟩ (bs.map (fun b:Nat=>newT (b:Int) ⟨r.count,e⟩)) (r.ws.foldl (goOnS l ⟨r.count,e⟩) (⟨[],live,false⟩,⟨[],found,false⟩))
 have hw1:(r.ws.foldl (goOnS l ⟨r.count,e⟩) ((⟨[],live,false⟩,⟨[],found,false⟩):Crw×Crw)).1.over=false:=by
  cases hq:(r.ws.foldl (goOnS l ⟨r.count,e⟩) ((⟨[],live,false⟩,⟨[],found,false⟩):Crw×Crw)).1.over with
  | false=>rfl
  | true=>have:=fm.1 hq;have c:=c3.1;unfold stepS at c;rw [this] at c;cases c
 have he1:(r.ws.foldl (goOnS l ⟨r.count,e⟩) ((⟨[],live,false⟩,⟨[],found,false⟩):Crw×Crw)).2.over=false:=by
  cases hq:(r.ws.foldl (goOnS l ⟨r.count,e⟩) ((⟨[],live,false⟩,⟨[],found,false⟩):Crw×Crw)).2.over with
  | false=>rfl
  | true=>have:=fm.2 hq;have c:=c3.2;unfold stepS at c;rw [this] at c;cases c
 have f1:=sim_fold (code:=l) (hand:=⟨r.count,e⟩) r.ws _ _ (Or.inl s0) hw1 he1
 have f2:=sim_fold (code:=l) (hand:=⟨r.count,e⟩) (bs.map (fun b:Nat=>newT (b:Int) ⟨r.count,e⟩)) _ _ f1 c3.1 c3.2
 have e1:∀a b:Int,stepS l ⟨r.count,e⟩ r.ws bs a b=(bs.map (fun b:Nat=>newT (b:Int) ⟨r.count,e⟩)).foldl (goOnS l ⟨r.count,e⟩) (r.ws.foldl (goOnS l ⟨r.count,e⟩) (⟨[],a,false⟩,⟨[],b,false⟩)):=fun a b=>rfl
 rw [←e1,←e1] at f2
 generalize stepS l ⟨r.count,e⟩ r.ws bs live found=C at *
 generalize stepS l ⟨r.count,e⟩ r.ws bs (lw:Int) (le:Int)=D at *
 rcases f2 with f|f
 ·left
  have hwl:=f.wl
  have hel:=f.el
  rw [f.w] at hwl
  rw [f.e] at hel
  refine ⟨hwl,by simpa using hel,?_⟩
  rw [if_neg (by simp [f.wo,f.eo]),f.w,f.e]
 ·right
  refine ⟨by simpa using f.2,?_⟩
  rw [if_pos (by simpa using f.1)]
end
end Go.Proofs.YtcboiapggnmpfabGreat
