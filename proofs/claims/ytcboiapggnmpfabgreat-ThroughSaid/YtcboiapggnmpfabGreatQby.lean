import Derived.Test.YtcboiapggnmpfabGreatQbx
namespace Go.Proofs.YtcboiapggnmpfabGreat
set_option maxRecDepth 100000
set_option maxHeartbeats 4000000
set_option linter.unusedSimpArgs false
set_option linter.unusedVariables false
open Go.RowKit
open Value (slice)
def RunA (w:World) (X:Nat) (sc:List Int) (live found:Int) (l:List In) (P:Nat→Prop) (r:Rst):Prop :=
 ∃g cap bv,RunK w X sc live found g cap l bv (beginsS l) r∧RunC sc live found l (beginsS l)∧P X∧P g∧(∀b,bv.ownBlock=some b→P b)∧(∀v b,w.cell? ⟨X,9,none⟩=some v→v.ownBlock=some b→P b)
theorem RunA.lt {w:World} {X:Nat} {sc:List Int} {live found:Int} {l:List In} {P:Nat→Prop} {r:Rst} (h:RunA w X sc live found l P r):X<w.heap.size:=by
 obtain ⟨_,_,_,⟨⟨_,h⟩,_,_⟩,_⟩:=h
 exact h.lt
theorem RunA.mono {w:World} {X:Nat} {sc:List Int} {live found:Int} {l:List In} {P Q:Nat→Prop} {r:Rst} (h:RunA w X sc live found l P r) (hPQ:∀b,b<w.heap.size→P b→Q b):RunA w X sc live found l Q r:=by
 have hX:=h.lt
 obtain ⟨g,cap,bv,hk,hc,p1,p2,p3,p4⟩:=h
 obtain ⟨⟨wv,hm⟩,_,_⟩:=id hk
 refine ⟨g,cap,bv,hk,hc,hPQ _ hX p1,hPQ _ hm.code.lt p2,fun b hb=>hPQ _ (hm.bo.lt b hb).2 (p3 b hb),fun v b hv hb=>hPQ _ ?_ (p4 v b hv hb)⟩
 rw [hm.wt] at hv
 cases hv
 exact (hm.wo.lt b hb).2
theorem RunA.kp {S:Nat→Prop} {w w':World} {X:Nat} {sc:List Int} {live found:Int} {l:List In} {P:Nat→Prop} {r:Rst} (h:RunA w X sc live found l P r) (k:Kp S w w') (hS:∀b,b<w.heap.size→P b→¬S b):RunA w' X sc live found l P r:=by
 have hX:=h.lt
 obtain ⟨g,cap,bv,⟨⟨wv,hm⟩,hn,hk⟩,hc,p1,p2,p3,p4⟩:=h
 refine ⟨g,cap,bv,⟨⟨wv,hm.kq k (hS _ hX p1) (hS _ hm.code.lt p2) (fun b hb=>hS _ (hm.bo.lt b hb).2 (p3 b hb)) (fun b hb=>hS _ (hm.wo.lt b hb).2 (p4 wv b hm.wt hb))⟩,hn,hk⟩,hc,p1,p2,p3,?_⟩
 intro v b hv hb
 rw [k.cell (p:=⟨X,9,none⟩) hX (hS _ hX p1)] at hv
 exact p4 v b hv hb
theorem RunA.nw {w w':World} {X:Nat} {sc:List Int} {live found:Int} {l:List In} {P:Nat→Prop} {r:Rst} (h:RunA w X sc live found l P r) (k:Nw w w'):RunA w' X sc live found l P r:=h.kp k (fun _ _ _ h=>h)
theorem NewRun.runA {w w':World} {X:Nat} {sc:List Int} {live found:Int} {l:List In} (h:NewRun w w' X sc live found l):RunA w' X sc live found l (fun b=>w.heap.size≤b∧b<w'.heap.size) ⟨[],0,0,false⟩:=by
 obtain ⟨g,cap,bv,hk,hg,hb⟩:=h.k
 obtain ⟨⟨wv,hm⟩,_,_⟩:=id hk
 refine ⟨g,cap,bv,hk,h.c,⟨h.x,hm.lt⟩,⟨hg,hm.code.lt⟩,fun b e=>⟨hb b e,(hm.bo.lt b e).2⟩,fun v b hv hb => ?_⟩
 rw [h.e] at hv
 cases hv
 cases hb
def FedA (w:World) (X:Nat) (sc:List Int) (live found:Int) (l:List In) (P:Nat→Prop) (p:Rst×List Mt×Int) (e:Ending) (w':World):Prop :=
 ∃mp mc,e=.returned (.tuple #[.slice mp p.2.1.length mc,.int .i64 p.2.2])∧w'.ownsRow w.heap.size 36 6 (.slice mp p.2.1.length mc) p.2.1.length (mtsC p.2.1)∧RunA w' X sc live found l P p.1∧Kp (fun b=>b=X) w w'∧(¬p.2.2=0→slice mp p.2.1.length mc=.slice none 0 0)
theorem feedA_any {w:World} {X:Nat} {sc:List Int} {live found:Int} {l:List In} {P:Nat→Prop} {r:Rst} (h:RunA w X sc live found l P r) (hP:∀b,w.heap.size≤b→P b) {e:Evt} (he:EvOk e) (hct:r.count≤1000000) :
  Calls Tryz.prog 21 #[.pointer (some ⟨X,0,none⟩),.agg #[.int .i64 e.at',.int .i64 e.kind,.int .i64 e.x,.int .i64 e.y,.int .i64 e.z]] w (FedA w X sc live found l P (feedS sc l (beginsS l) live found r e)):=by
 obtain ⟨g,cap,bv,hk,hc,p1,p2,p3,p4⟩:=h
 refine (feedX_any X sc live found g cap l bv (beginsS l) r e w hc hk he hct).mono ?_
 rintro e3 w3 ⟨v,rfl,hO,hk3,kk,hnl,hlw⟩
 obtain ⟨mp,mc,rfl⟩:=ownsLenX hO
 refine ⟨mp,mc,rfl,hO,⟨g,cap,bv,hk3,hc,p1,p2,p3,?_⟩,kk,hnl⟩
 intro v b hv hb
 rcases hlw v b hv hb with h|h
 ·exact hP b h
 ·exact p4 v b h hb
theorem RunA.live {w:World} {X:Nat} {sc:List Int} {live found:Int} {l:List In} {P:Nat→Prop} {r:Rst} (h:RunA w X sc live found l P r):Calls Tryz.prog 22 #[.pointer (some ⟨X,0,none⟩)] w fun e w'=>e=.returned (.int .i64 (r.ws.length:Int))∧w'=w:=by
 obtain ⟨g,cap,bv,⟨⟨wv,hm⟩,_,_⟩,_⟩:=h
 obtain ⟨p,c,rfl⟩:=ownsLenX hm.wo
 exact liveX_any X _ p c w hm.wt
theorem RunA.count {w:World} {X:Nat} {sc:List Int} {live found:Int} {l:List In} {P:Nat→Prop} {r:Rst} (h:RunA w X sc live found l P r):Calls Tryz.prog 23 #[.pointer (some ⟨X,0,none⟩)] w fun e w'=>e=.returned (.int .i64 (r.count:Int))∧w'=w:=by
 obtain ⟨g,cap,bv,⟨⟨wv,hm⟩,_,_⟩,_⟩:=h
 exact countX_any X _ w hm.ct
structure NamK (s:ByteArray) (code:List In):Prop where
 p:ProgIs ⟨#[49,49,49]⟩ s code
 z:s.size≤1000
 f:freeB code (beginsS code) 12=true
def namesC:List Value:=[.string ⟨#[97,65,32,98,91,120,62,65,120,93]⟩,.string ⟨#[97,65,46,42,98,91,120,62,65,120,93]⟩,.string ⟨#[97,65,46,42,98,66,91,120,62,65,120,93,46,42,99,91,120,60,66,120,93]⟩,.string ⟨#[40,97,65,124,97,66,41,98,42,99]⟩,.string ⟨#[40,97,65,32,98,124,98,66,32,97,41,99,67]⟩,.string ⟨#[97,65,40,98,91,120,61,65,120,93,124,99,91,120,35,65,120,93,41,43]⟩,.string ⟨#[97,65,91,120,62,49,93,98,123,48,50,125,99,66,91,116,60,65,116,43,57,93]⟩,.string ⟨#[40,97,65,124,97,65,46,41,98,66,91,120,60,65,120,42,50,93,64,50,48]⟩,.string ⟨#[99,65,46,123,48,51,125,99,66,91,120,61,65,120,45,49,93]⟩,.string ⟨#[97,65,46,42,97,66,91,120,62,65,120,93,64,49,50]⟩]
theorem names_at:∀k,k<10→∃s code,namesC[k]? = some (.string s)∧NamK s code:=by
 intro k hk
 rcases (show k=0∨k=1∨k=2∨k=3∨k=4∨k=5∨k=6∨k=7∨k=8∨k=9 by omega) with rfl|rfl|rfl|rfl|rfl|rfl|rfl|rfl|rfl|rfl
 ·exact ⟨_,ncode0,rfl,nprog0,by decide,nfree0⟩
 ·exact ⟨_,ncode1,rfl,nprog1,by decide,nfree1⟩
 ·exact ⟨_,ncode2,rfl,nprog2,by decide,nfree2⟩
 ·exact ⟨_,ncode3,rfl,nprog3,by decide,nfree3⟩
 ·exact ⟨_,ncode4,rfl,nprog4,by decide,nfree4⟩
 ·exact ⟨_,ncode5,rfl,nprog5,by decide,nfree5⟩
 ·exact ⟨_,ncode6,rfl,nprog6,by decide,nfree6⟩
 ·exact ⟨_,ncode7,rfl,nprog7,by decide,nfree7⟩
 ·exact ⟨_,ncode8,rfl,nprog8,by decide,nfree8⟩
 ·exact ⟨_,ncode9,rfl,nprog9,by decide,nfree9⟩
theorem NamK.pat {s:ByteArray} {code:List In} (h:NamK s code) {L:List Evt} (hL:L.length≤12) (hg:GoesE (bI ⟨#[49,49,49]⟩) 0 L):PatK s code L :=
 ⟨h.p,h.z,fun i e hi=>(free_of h.f hL hg hi).1⟩
theorem namedK_any (c:Int) (w:World) (hc:In64 c):Calls Tryz.prog 15 #[.int .i64 c] w fun e w'=>∃s code,e=.returned (.string s)∧NamK s code∧Nw w w':=by
 have HP:Hid (∀W,Calls Tryz.prog 14 #[.int .i64 c,.int .i64 10] W fun e w'=>e=.returned (.int .i64 (pickK c 10))∧w'=W):=fun W=>pickK_any c 10 W hc (by omega) (by omega)
 obtain ⟨k,hk⟩:∃k:Nat,pickK c 10=k:=⟨(pickK c 10).toNat,by have:=pickK_lt (c:=c) (n:=10) (by omega);omega⟩
 have hk10:k<10:=by have:=pickK_lt (c:=c) (n:=10) (by omega);omega
 rw [hk] at HP
 obtain ⟨s,code,hs,hN⟩:=names_at k hk10
 have HN:Hid (NamK s code):=hN
 have HB:Hid (Bx (w.alloc (.cells namesC.toArray 72)) w.heap.size namesC):=Bx.new w namesC _
 have hcell:=HB.out.cell hs
 unfold namesC at hcell
 have HK:Hid (∀o,Nw w (w.alloc o)):=fun o=>(Kp.refl _ _).alloc _
 have hki:(k:Int)<10:=by omega
 clear hk hs hN HB
 go_enter Tryz.func15,Tryz.ntmps15
 go_wp2_with fail
 refine (HP.out _).mono ?_
 rintro e1 w1 ⟨rfl,rfl⟩
 go_wp2
 go_ret
 exact ⟨s,code,rfl,HN.out,HK.out _⟩
theorem evsR_get (l:List Evt):∀(i j:Nat) (x:Evt),l[i]? = some x→j<5→(evsR l)[i*5+j]? = (evC5 x)[j]?:=by
 induction l with
 | nil=>intro i j x h;simp at h
 | cons y r ih =>
  intro i j x h hj
  have e:evsR (y::r)=evC5 y++evsR r:=by simp [evsR]
  have hl:(evC5 y).length=5:=rfl
  rw [e]
  cases i with
  | zero=>simp at h;subst h;rw [List.getElem?_append_left (by omega)];simp
  | succ i =>
   simp at h
   rw [List.getElem?_append_right (by omega),hl]
   have:(i+1)*5+j - 5=i*5+j:=by omega
   rw [this];exact ih i j x h hj
def SpoiltOk:Prop:=∀(c now:Int) (w:World),In64 c→0≤now→now≤100000→Calls Tryz.prog 20 #[.int .i64 c,.int .i64 now] w fun r w'=>∃e:Evt,r=.returned (.agg #[.int .i64 e.at',.int .i64 e.kind,.int .i64 e.x,.int .i64 e.y,.int .i64 e.z])∧EvOk e∧(e.at'<now∨goodE (bI ⟨#[49,49,49]⟩) e=false)∧Nw w w'
section
section
variable {l:List In} {hand:Nmb} {t:Thr}
theorem goF_tn (hn:l.length≤1000) (hh:In64 hand.n∧EvOk hand.e) (ht:TOk t) (hA:AllIns l):∀(m:Nat) (s:Tn),TnOk l.length s→TnOk l.length (goF l hand t m s):=by
 intro m
 induction m with
 | zero=>intro s h;exact h
 | succ m ih =>
  intro s h
  unfold goF
  split
  ·exact h
  ·split
   ·exact h
   ·rename_i p hp
    split
    ·exact h
    ·rename_i x hx
     obtain ⟨⟨a,ha,hal⟩,hw⟩:=h.o p (List.mem_of_getLast? hp)
     have hb:TnOk l.length { s with opn:=s.opn.dropLast }:=⟨h.w,h.e,h.v,fun u hu=>h.o u (List.dropLast_subset _ hu)⟩
     have hx':l[a]? = some x:=by rw [ha] at hx;simpa using hx
     rw [ha]
     exact ih _ (lvS_ok rfl hn hb hh ht hA hx' hw).1
theorem goOn_cr (hn:l.length≤1000) (hh:In64 hand.n∧EvOk hand.e) (ht:TOk t) (hA:AllIns l) {c:Crw×Crw} (h1:CrOk c.1) (h2:CrOk c.2):CrOk (goOnS l hand c t).1∧CrOk (goOnS l hand c t).2:=by
 unfold goOnS
 split
 ·exact ⟨h1,h2⟩
 ·rename_i x hx
  split
  ·have s0:TnOk l.length ⟨List.replicate (16*l.length) false,[],c.1,c.2⟩:=⟨h1,h2,by simp,fun p hp=>by simp at hp⟩
   have e1:t.at'+1=((t.at'.toNat+1:Nat):Int):=by have:=ht.a;omega
   have s1:=rchS_ok s0 (t.at'.toNat+1) 0 (by omega)
   rw [e1]
   have s2:=goF_tn hn hh ht hA (1+16*l.length) _ s1
   exact ⟨s2.w,s2.e⟩
  ·exact ⟨h1,h2⟩
end
theorem fold_cr {l:List In} {hand:Nmb} (hn:l.length≤1000) (hh:In64 hand.n∧EvOk hand.e) (hA:AllIns l):∀(ts:List Thr) (c:Crw×Crw),(∀t∈ts,TOk t)→CrOk c.1→CrOk c.2→CrOk (ts.foldl (goOnS l hand) c).1∧CrOk (ts.foldl (goOnS l hand) c).2:=by
 intro ts
 induction ts with
 | nil=>intro c _ h1 h2;exact ⟨h1,h2⟩
 | cons t ts ih =>
  intro c ht h1 h2
  obtain ⟨a,b⟩:=goOn_cr hn hh (ht t (by simp)) hA h1 h2
  exact ih _ (fun u hu=>ht u (by simp [hu])) a b
theorem mt_of {t:Thr} (h:TOk t) {n:Int} (hn:In64 n):MtOk (matchT t n) :=
 ⟨h.k.f,hn,(h.k.h 0).1,(h.k.h 1).1,(h.k.h 2).1,(h.k.h 3).1⟩
theorem feed_mts {sc:List Int} {l:List In} {bs:List Nat} {live found:Int} (hc:RunC sc live found l bs) {r:Rst} (hw:∀u∈r.ws,TOk u) {e:Evt} (he:EvOk e) (hct:r.count≤1000000):∀m∈(feedS sc l bs live found r e).2.1,MtOk m:=by
 intro m hm
 unfold feedS at hm
 split at hm
 ·simp at hm
 ·split at hm
  ·simp at hm
  ·rename_i h2
   split at hm
   ·simp at hm
   ·simp only [List.mem_map] at hm
    obtain ⟨t,ht,rfl⟩:=hm
    have hg:goodE sc e=true:=by
     simp only [not_or,Bool.not_eq_false] at h2
     exact h2.2
    have htm:TimeOk e.at':=by
     unfold goodE at hg
     simp only [Bool.and_eq_true,decide_eq_true_eq] at hg
     unfold TimeOk
     omega
    have hh:In64 (r.count:Int)∧EvOk e:=⟨by unfold In64;omega,he⟩
    have c0:∀n:Int,n≤10000→CrOk ⟨[],n,false⟩:=fun n hn=>⟨hn,by simp,fun u hu=>by simp at hu⟩
    obtain ⟨f1,f2⟩:=fold_cr (hand:=⟨r.count,e⟩) hc.n hh hc.a r.ws (⟨[],live,false⟩,⟨[],found,false⟩) hw (c0 _ hc.lv) (c0 _ hc.fd)
    obtain ⟨g1,g2⟩:=fold_cr (hand:=⟨r.count,e⟩) hc.n hh hc.a (bs.map (fun b:Nat=>newT (b:Int) ⟨r.count,e⟩)) _ (fun u hu=>by
     obtain ⟨b,hb,rfl⟩:=List.mem_map.1 hu
     exact newT_ok hh htm (by have:=hc.bl b hb;have:=hc.n;omega)) f1 f2
    exact mt_of (g2.t t ht) (by unfold In64;omega)
theorem feed_len {sc:List Int} {l:List In} {bs:List Nat} {live found:Int} (hc:RunC sc live found l bs) {r:Rst} (hw:∀u∈r.ws,TOk u) {e:Evt} (he:EvOk e) (hct:r.count≤1000000):(feedS sc l bs live found r e).2.1.length≤10000:=by
 unfold feedS
 split
 ·simp
 ·split
  ·simp
  ·rename_i h2
   split
   ·simp
   ·simp only [List.length_map]
    have hg:goodE sc e=true:=by
     simp only [not_or,Bool.not_eq_false] at h2
     exact h2.2
    have htm:TimeOk e.at':=by
     unfold goodE at hg
     simp only [Bool.and_eq_true,decide_eq_true_eq] at hg
     unfold TimeOk
     omega
    have hh:In64 (r.count:Int)∧EvOk e:=⟨by unfold In64;omega,he⟩
    have c0:∀n:Int,n≤10000→CrOk ⟨[],n,false⟩:=fun n hn=>⟨hn,by simp,fun u hu=>by simp at hu⟩
    obtain ⟨f1,f2⟩:=fold_cr (hand:=⟨r.count,e⟩) hc.n hh hc.a r.ws (⟨[],live,false⟩,⟨[],found,false⟩) hw (c0 _ hc.lv) (c0 _ hc.fd)
    obtain ⟨g1,g2⟩:=fold_cr (hand:=⟨r.count,e⟩) hc.n hh hc.a (bs.map (fun b:Nat=>newT (b:Int) ⟨r.count,e⟩)) _ (fun u hu=>by
     obtain ⟨b,hb,rfl⟩:=List.mem_map.1 hu
     exact newT_ok hh htm (by have:=hc.bl b hb;have:=hc.n;omega)) f1 f2
    exact g2.n
theorem feed_state {sc:List Int} {l:List In} {bs:List Nat} {live found:Int} {r:Rst} {e:Evt} (h:(feedS sc l bs live found r e).2.2=0):(feedS sc l bs live found r e).1.spent=r.spent∧(feedS sc l bs live found r e).1.last=e.at'∧r.spent=false:=by
 unfold feedS at h ⊢
 split
 ·rename_i c;rw [if_pos c] at h;simp at h
 ·rename_i c1
  rw [if_neg c1] at h
  split
  ·rename_i c;rw [if_pos c] at h;simp at h
  ·rename_i c2
   rw [if_neg c2] at h
   split
   ·rename_i c;rw [if_pos c] at h;simp at h
   ·exact ⟨rfl,rfl,by simpa using c1⟩
theorem run_state {sc:List Int} {l:List In} {bs:List Nat} {live found:Int} {r:Rst} (hsp:r.spent=false) {L:List Evt} (h:∀i e,L[i]? = some e→(feedS sc l bs live found (runS sc l bs live found r (L.take i)) e).2.2=0):∀i,i≤L.length→(runS sc l bs live found r (L.take i)).spent=false∧(runS sc l bs live found r (L.take i)).last=(L.take i).foldl (fun _ x=>x.at') r.last:=by
 intro i
 induction i with
 | zero=>intro _;simp [runS,hsp]
 | succ i ih =>
  intro hi
  have hx:L[i]? = some (L[i]'(by omega)):=List.getElem?_eq_getElem (by omega)
  have e1:L.take (i+1)=L.take i++[L[i]'(by omega)]:=by rw [List.take_add_one,hx];rfl
  obtain ⟨s1,s2,s3⟩:=feed_state (h i _ hx)
  rw [e1,runS_snoc,s1,s2,List.foldl_append]
  exact ⟨s3,rfl⟩
theorem feed_bad {sc:List Int} {l:List In} {bs:List Nat} {live found:Int} {r:Rst} (hsp:r.spent=false) {e:Evt} (hb:e.at'<r.last∨goodE sc e=false):feedS sc l bs live found r e=(r,[],10):=by
 unfold feedS
 rw [if_neg (by simp [hsp]),if_pos hb]
end
end Go.Proofs.YtcboiapggnmpfabGreat
