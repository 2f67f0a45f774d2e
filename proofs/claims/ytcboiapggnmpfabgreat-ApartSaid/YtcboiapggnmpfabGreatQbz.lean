import Derived.Test.YtcboiapggnmpfabGreatQbw
import Derived.Test.YtcboiapggnmpfabGreatQby
import Derived.Test.YtcboiapggnmpfabGreatQbv
namespace Go.Proofs.YtcboiapggnmpfabGreat
set_option maxRecDepth 100000
set_option maxHeartbeats 4000000
set_option linter.unusedSimpArgs false
set_option linter.unusedVariables false
open Go.RowKit
structure NamK (s:ByteArray) (code:List In):Prop where
 p:ProgIs ⟨#[49,49,49]⟩ s code
 z:s.size≤1000
 f:freeB code (beginsS code) 12=true
def namesC:List Value:=[.string ⟨#[97,65,32,98,91,120,62,65,120,93]⟩,.string ⟨#[97,65,46,42,98,91,120,62,65,120,93]⟩,.string ⟨#[97,65,46,42,98,66,91,120,62,65,120,93,46,42,99,91,120,60,66,120,93]⟩,.string ⟨#[40,97,65,124,97,66,41,98,42,99]⟩,.string ⟨#[40,97,65,32,98,124,98,66,32,97,41,99,67]⟩,.string ⟨#[97,65,40,98,91,120,61,65,120,93,124,99,91,120,35,65,120,93,41,43]⟩,.string ⟨#[97,65,91,120,62,49,93,98,123,48,50,125,99,66,91,116,60,65,116,43,57,93]⟩,.string ⟨#[40,97,65,124,97,65,46,41,98,66,91,120,60,65,120,42,50,93,64,50,48]⟩,.string ⟨#[99,65,46,123,48,51,125,99,66,91,120,61,65,120,45,49,93]⟩,.string ⟨#[97,65,46,42,97,66,91,120,62,65,120,93,64,49,50]⟩]
theorem names_at:∀k,k<10→∃s code,namesC[k]? = some (.string s)∧NamK s code:=by
 intro k hk
 rcases (show k=0∨k=1∨k=2∨k=3∨k=4∨k=5∨k=6∨k=7∨k=8∨k=9 by omega) with rfl|rfl|rfl|rfl|rfl|rfl|rfl|rfl|rfl|rfl
 ·exact ⟨_,ncode0,rfl,nprog0,by decide,nfree0⟩
 ·exact ⟨_,ncode1,rfl,nprog1,by decide,nfree1⟩
 ·exact ⟨_,ncode2,rfl,nprog2,by decide,nfree2⟩
 ·exact ⟨_,ncode3,rfl,nprog3,by decide,nfree3⟩
 ·exact ⟨_,ncode4,rfl,nprog4,by decide,nfree4⟩
 ·exact ⟨_,ncode5,rfl,nprog5,by decide,nfree5⟩
 ·exact ⟨_,ncode6,rfl,nprog6,by decide,nfree6⟩
 ·exact ⟨_,ncode7,rfl,nprog7,by decide,nfree7⟩
 ·exact ⟨_,ncode8,rfl,nprog8,by decide,nfree8⟩
 ·exact ⟨_,ncode9,rfl,nprog9,by decide,nfree9⟩
theorem NamK.pat {s:ByteArray} {code:List In} (h:NamK s code) {L:List Evt} (hL:L.length≤12) (hg:GoesE (bI ⟨#[49,49,49]⟩) 0 L):PatK s code L :=
 ⟨h.p,h.z,fun i e hi=>(free_of h.f hL hg hi).1⟩
theorem namedK_any (c:Int) (w:World) (hc:In64 c):Calls Tryz.prog 15 #[.int .i64 c] w fun e w'=>∃s code,e=.returned (.string s)∧NamK s code∧Nw w w':=by
 have HP:Hid (∀W,Calls Tryz.prog 14 #[.int .i64 c,.int .i64 10] W fun e w'=>e=.returned (.int .i64 (pickK c 10))∧w'=W):=fun W=>pickK_any c 10 W hc (by omega) (by omega)
 obtain ⟨k,hk⟩:∃k:Nat,pickK c 10=k:=⟨(pickK c 10).toNat,by have:=pickK_lt (c:=c) (n:=10) (by omega);omega⟩
 have hk10:k<10:=by have:=pickK_lt (c:=c) (n:=10) (by omega);omega
 rw [hk] at HP
 obtain ⟨s,code,hs,hN⟩:=names_at k hk10
 have HN:Hid (NamK s code):=hN
 have HB:Hid (Bx (w.alloc (.cells namesC.toArray 72)) w.heap.size namesC):=Bx.new w namesC _
 have hcell:=HB.out.cell hs
 unfold namesC at hcell
 have HK:Hid (∀o,Nw w (w.alloc o)):=fun o=>(Kp.refl _ _).alloc _
 have hki:(k:Int)<10:=by omega
 clear hk hs hN HB
 go_enter Tryz.func15,Tryz.ntmps15
 go_wp2_with fail
 refine (HP.out _).mono ?_
 rintro e1 w1 ⟨rfl,rfl⟩
 go_wp2
 go_ret
 exact ⟨s,code,rfl,HN.out,HK.out _⟩
theorem evsR_get (l:List Evt):∀(i j:Nat) (x:Evt),l[i]? = some x→j<5→(evsR l)[i*5+j]? = (evC5 x)[j]?:=by
 induction l with
 | nil=>intro i j x h;simp at h
 | cons y r ih =>
  intro i j x h hj
  have e:evsR (y::r)=evC5 y++evsR r:=by simp [evsR]
  have hl:(evC5 y).length=5:=rfl
  rw [e]
  cases i with
  | zero=>simp at h;subst h;rw [List.getElem?_append_left (by omega)];simp
  | succ i =>
   simp at h
   rw [List.getElem?_append_right (by omega),hl]
   have:(i+1)*5+j - 5=i*5+j:=by omega
   rw [this];exact ih i j x h hj
theorem goes_mono {sc:List Int} {L:List Evt} {a b:Int} (h:a≤b) (hg:GoesE sc b L):GoesE sc a L:=by
 cases L with
 | nil=>trivial
 | cons e r=>obtain ⟨h1,h2,h3,h4⟩:=hg;exact ⟨h1,h2,by omega,h4⟩
theorem goes_drop {sc:List Int}:∀(k:Nat) (L:List Evt) (now:Int),GoesE sc now L→GoesE sc now (L.drop k):=by
 intro k
 induction k with
 | zero=>intro L now h;simpa using h
 | succ k ih =>
  intro L now h
  cases L with
  | nil=>trivial
  | cons e r =>
   obtain ⟨h1,h2,h3,h4⟩:=h
   rw [List.drop_succ_cons]
   exact goes_mono h3 (ih r e.at' h4)
def LenC (n:Int) (c:Crw):Prop:=c.most=n∧(c.l.length:Int)≤n
theorem LenC.add {n:Int} {c:Crw} (h:LenC n c) (t:Thr):LenC n (addC c t):=by
 refine ⟨by rw [addC_most];exact h.1,?_⟩
 have h1:=h.1
 have h2:=h.2
 unfold addC
 split
 ·exact h2
 split
 ·exact h2
 ·have:=plcT_le c.l t
  show (((c.l.take (plcT c.l t)++t::c.l.drop (plcT c.l t)).length:Nat):Int)≤n
  have e:(c.l.take (plcT c.l t)++t::c.l.drop (plcT c.l t)).length=c.l.length+1:=by simp;omega
  rw [e]
  omega
theorem lv_len {n m:Int} (hand:Nmb) (t:Thr) (s:Tn) (a:Int) (an:Nat) (x:In) (h:LenC n s.wait∧LenC m s.ended):LenC n (lvS hand t s a an x).wait∧LenC m (lvS hand t s a an x).ended:=by
 have hr:∀(s:Tn) z (n:Nat),(rchS s z n).wait=s.wait∧(rchS s z n).ended=s.ended:=rchS_wait
 unfold lvS
 split
 ·exact ⟨h.1.add _,h.2⟩
 split
 ·split
  ·rw [(hr _ _ _).1,(hr _ _ _).2];exact h
  ·exact h
 split
 ·split
  ·rw [(hr _ _ _).1,(hr _ _ _).2];exact h
  ·exact h
 split
 ·rw [(hr _ _ _).1,(hr _ _ _).2];exact h
 split
 ·rw [(hr _ _ _).1,(hr _ _ _).2];exact h
 split
 ·rw [(hr _ _ _).1,(hr _ _ _).2,(hr _ _ _).1,(hr _ _ _).2];exact h
 split
 ·exact ⟨h.1,h.2.add _⟩
 ·exact h
theorem goF_len {n m:Int} {code:List In} {hand:Nmb} {t:Thr}:∀(f:Nat) (s:Tn),(LenC n s.wait∧LenC m s.ended)→LenC n (goF code hand t f s).wait∧LenC m (goF code hand t f s).ended:=by
 intro f
 induction f with
 | zero=>intro s h;exact h
 | succ f ih =>
  intro s h
  unfold goF
  split
  ·exact h
  split
  ·exact h
  split
  ·exact h
  ·exact ih _ (lv_len _ _ _ _ _ _ h)
theorem fold_len {n m:Int} {code:List In} {hand:Nmb}:∀(ts:List Thr) (c:Crw×Crw),(LenC n c.1∧LenC m c.2)→LenC n (ts.foldl (goOnS code hand) c).1∧LenC m (ts.foldl (goOnS code hand) c).2:=by
 intro ts
 induction ts with
 | nil=>intro c h;exact h
 | cons t r ih =>
  intro c h
  refine ih _ ?_
  unfold goOnS
  split
  ·exact h
  split
  ·exact goF_len _ _ (by rw [(rchS_wait _ _ _).1,(rchS_wait _ _ _).2];exact h)
  ·exact h
theorem feed_less {sc:List Int} {code:List In} {bs:List Nat} {r:Rst} {e:Evt}:(feedS sc code bs 200 200 r e).2.1.length≤200:=by
 unfold feedS
 split
 ·simp
 split
 ·simp
 split
 ·simp
 ·have h:LenC 200 (stepS code ⟨r.count,e⟩ r.ws bs 200 200).2:=by
   unfold stepS
   exact (fold_len _ _ (fold_len _ _ ⟨⟨rfl,by simp⟩,⟨rfl,by simp⟩⟩)).2
  simp only [List.length_map]
  have:=h.2
  omega
structure MtS (m:Mt):Prop where
 f : -1≤m.first∧m.first≤100
 l : -1≤m.last∧m.last≤100
 h0 : -1≤m.h0∧m.h0≤100
 h1 : -1≤m.h1∧m.h1≤100
 h2 : -1≤m.h2∧m.h2≤100
 h3 : -1≤m.h3∧m.h3≤100
theorem tru_le {L:List Evt} (hL:L.length≤12) {a:Nmb} (h:a=nmb0∨∃n:Nat,a.n=n∧L[n]? = some a.e) : -1≤a.n∧a.n≤100:=by
 rcases h with rfl|⟨n,h,hn⟩
 ·simp [nmb0]
 ·have:=(List.getElem?_eq_some_iff.1 hn).1
  omega
theorem out_small {sc:List Int} {code:List In} {bs:List Nat} {L:List Evt} (hL:L.length≤12) (hI:Inb code) (hb:∀b∈bs,b+1<code.length)
  (hok:∀i e,L[i]? = some e→(feedS sc code bs 200 200 (runS sc code bs 200 200 ⟨[],0,0,false⟩ (L.take i)) e).2.2=0):∀l∈outS sc code bs 200 200 ⟨[],0,0,false⟩ L,l.length≤200∧∀m∈l,MtS m:=by
 intro l hl
 obtain ⟨i,hi⟩:=List.mem_iff_getElem?.1 hl
 have hil:i<L.length:=by have:=(List.getElem?_eq_some_iff.1 hi).1;rwa [outS_len] at this
 obtain ⟨e,he⟩:∃e,L[i]? = some e:=⟨L[i],by simp [hil]⟩
 rw [outS_get _ _ _ _ _ L _ i e he] at hi
 cases hi
 refine ⟨feed_less,?_⟩
 obtain ⟨E,h1,h2,h3⟩:=out_mean hI hb hok i e he
 intro m hm
 rw [h1] at hm
 obtain ⟨u,hu,rfl⟩:=List.mem_map.1 hm
 have ht:=et_tru hI hb ((h3 u).1 hu)
 obtain ⟨n,ef,f1,f2,_⟩:=ht.f
 have hn:=(List.getElem?_eq_some_iff.1 f2).1
 refine ⟨?_,?_,tru_le hL (ht.h 0),tru_le hL (ht.h 1),tru_le hL (ht.h 2),tru_le hL (ht.h 3)⟩
 ·show -1≤u.first∧u.first≤100;omega
 ·show (-1:Int)≤(i:Int)∧(i:Int)≤100;omega
structure ApK (s:ByteArray) (code:List In) (L:List Evt) (k:Nat):Prop where
 p0:PatK s code L
 p1:PatK s code (L.drop k)
 ap:∀(j:Nat) (A B:List Mt),(outS (bI ⟨#[49,49,49]⟩) code (beginsS code) 200 200 ⟨[],0,0,false⟩ L)[k+j]? = some A→(outS (bI ⟨#[49,49,49]⟩) code (beginsS code) 200 200 ⟨[],0,0,false⟩ (L.drop k))[j]? = some B→A.filter (fun m=>decide ((k:Int)≤m.first))=B.map (mvM k)
 a:∀l∈outS (bI ⟨#[49,49,49]⟩) code (beginsS code) 200 200 ⟨[],0,0,false⟩ L,l.length≤200∧∀m∈l,MtS m
 b:∀l∈outS (bI ⟨#[49,49,49]⟩) code (beginsS code) 200 200 ⟨[],0,0,false⟩ (L.drop k),l.length≤200∧∀m∈l,MtS m
theorem NamK.apart {s:ByteArray} {code:List In} (h:NamK s code) {L:List Evt} (hL:L.length≤12) (hg:GoesE (bI ⟨#[49,49,49]⟩) 0 L) (k:Nat):ApK s code L k:=by
 have hL2:(L.drop k).length≤12:=by rw [List.length_drop];omega
 have p0:=h.pat hL hg
 have p1:=h.pat hL2 (goes_drop k L 0 hg)
 obtain ⟨_,_,hA⟩:=h.p.v.all
 have hI:=hA.inb
 have hf:=h.f
 unfold freeB at hf
 simp only [Bool.and_eq_true] at hf
 have hb:∀b∈beginsS code,b+1<code.length:=by
  intro b hb
  obtain ⟨x,hx,h0⟩:=isTk_is ((List.all_eq_true.1 hf.1.1) b hb)
  exact (hI b x hx).1 (Or.inl h0)
 refine ⟨p0,p1,?_,out_small hL hI hb p0.ok,out_small hL2 hI hb p1.ok⟩
 intro j A B hA hB
 have hil:k+j<L.length:=by have:=(List.getElem?_eq_some_iff.1 hA).1;rwa [outS_len] at this
 obtain ⟨e,he⟩:∃e,L[k+j]? = some e:=⟨L[k+j],by simp [hil]⟩
 have hd:(L.drop k)[j]? = some e:=by rw [List.getElem?_drop];exact he
 rw [outS_get _ _ _ _ _ L _ (k+j) e he] at hA
 rw [outS_get _ _ _ _ _ (L.drop k) _ j e hd] at hB
 cases hA
 cases hB
 exact apart_out hI hb p0.ok p1.ok j e he
theorem MtS.mv {m:Mt} (h:MtS m) {k:Nat} (hk:k≤100):MtOk (mvM k m):=by
 obtain ⟨a,b,c,d,e,f⟩:=h
 constructor <;> (unfold In64 mvM;simp only [mvI]) <;> (try split) <;> omega
theorem Eb.evs {W0 wr:World} {lp:Option Addr} {n c:Nat} {L:List Evt} (h:Eb W0 wr (.slice lp n c) L):EvsP wr lp L∧(∀g,lp=some ⟨g,0,none⟩→g<wr.heap.size):=by
 refine ⟨?_,?_⟩
 ·intro hne
  obtain ⟨g,c',e⟩:=owns_some h.own (List.length_pos_iff.2 hne)
  simp only [Value.slice.injEq] at e
  obtain ⟨rfl,rfl,rfl⟩:=e
  refine ⟨g,rfl,(h.own.lt g rfl).2,?_⟩
  intro i x hx j v hv
  have hj:j<5:=by have:=(List.getElem?_eq_some_iff.1 hv).1;simpa [evC5] using this
  exact owns_cell h.own (i*5+j) (by rw [evsR_get L i j x hx hj];exact hv)
 ·intro g e
  subst e
  exact (h.own.lt g rfl).2
theorem mtsC_get0 (l:List Mt):∀(i j:Nat) (x:Mt),l[i]? = some x→j<6→(mtsC l)[i*6+j]? = (mtC x)[j]?:=by
 induction l with
 | nil=>intro i j x h;simp at h
 | cons y r ih =>
  intro i j x h hj
  have e:mtsC (y::r)=mtC y++mtsC r:=by simp [mtsC]
  have hl:(mtC y).length=6:=rfl
  rw [e]
  cases i with
  | zero=>simp at h;subst h;rw [List.getElem?_append_left (by omega)];simp
  | succ i =>
   simp at h
   rw [List.getElem?_append_right (by omega),hl]
   have:(i+1)*6+j - 6=i*6+j:=by omega
   rw [this];exact ih i j x h hj
theorem mts_of0 {w:World} {base:Nat} {mp:Option Addr} {mc:Nat} {l:List Mt} (h:w.ownsRow base 36 6 (.slice mp l.length mc) l.length (mtsC l)):MtsP w mp l:=by
 intro hne
 obtain ⟨g,c',e⟩:=owns_some h (List.length_pos_iff.2 hne)
 simp only [Value.slice.injEq,true_and] at e
 obtain ⟨rfl,rfl⟩:=e
 refine ⟨g,rfl,(h.lt g rfl).2,?_⟩
 intro i x hx j v hv
 have hj:j<6:=by have:=(List.getElem?_eq_some_iff.1 hv).1;simpa [mtC] using this
 exact owns_cell h (i*6+j) (by rw [mtsC_get0 l i j x hx hj];exact hv)
end Go.Proofs.YtcboiapggnmpfabGreat
