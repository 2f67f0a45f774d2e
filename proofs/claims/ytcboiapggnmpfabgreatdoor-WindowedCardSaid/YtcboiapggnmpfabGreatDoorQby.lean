import Derived.Test.YtcboiapggnmpfabGreatDoorQbx
namespace Go.Proofs.YtcboiapggnmpfabGreatDoor
set_option maxRecDepth 100000
set_option maxHeartbeats 4000000
set_option linter.unusedSimpArgs false
set_option linter.unusedVariables false
open Go.RowKit
def atL (L:List Evt) (f:Int):Int:=match L[f.toNat]? with|some e=>e.at' | none=>0
theorem goes_rise {sc:List Int}:∀ {L:List Evt} {now:Int},GoesE sc now L→RiseE L:=by
 intro L
 induction L with
 | nil=>intro now _ i a b h;simp at h
 | cons x r ih =>
  intro now h i a b ha hb
  obtain ⟨_,_,_,h4⟩:=h
  cases i with
  | zero =>
   simp at ha
   subst ha
   cases r with
   | nil=>simp at hb
   | cons y r =>
    simp at hb
    subst hb
    exact h4.2.2.1
  | succ i=>exact ih h4 i a b (by simpa using ha) (by simpa using hb)
theorem wn_out {sc:List Int} {c0 c1:List In} {d:Nat} {r:Nat→Nat} (h:WinK c0 c1 d r (beginsS c0) (beginsS c1)) (hI1:Inb c1) (hb1:∀b∈beginsS c1,b+1<c1.length) {L:List Evt} (hL:RiseE L)
  (hok0:∀i e,L[i]? = some e→(feedS sc c0 (beginsS c0) 200 200 (runS sc c0 (beginsS c0) 200 200 ⟨[],0,0,false⟩ (L.take i)) e).2.2=0)
  (hok1:∀i e,L[i]? = some e→(feedS sc c1 (beginsS c1) 200 200 (runS sc c1 (beginsS c1) 200 200 ⟨[],0,0,false⟩ (L.take i)) e).2.2=0)
  {i:Nat} {e:Evt} (he:L[i]? = some e) {A B:List Mt} (hA:(outS sc c1 (beginsS c1) 200 200 ⟨[],0,0,false⟩ L)[i]? = some A) (hB:(outS sc c0 (beginsS c0) 200 200 ⟨[],0,0,false⟩ L)[i]? = some B) :
  A=B.filter (fun m=>decide (e.at' - atL L m.first≤(d:Int)))∧∀m∈B,0≤m.first∧m.first≤(i:Int):=by
 rw [outS_get _ _ _ _ _ L _ i e he] at hA hB
 obtain ⟨E,h1,h2,h3⟩:=out_mean hI1 hb1 hok1 i e he
 obtain ⟨F,f1,f2,f3⟩:=out_mean h.i (fun b hb=>(h.b b hb).1) hok0 i e he
 rw [h1] at hA
 rw [f1] at hB
 cases hA
 cases hB
 have htru:∀u∈F,Tru L u:=fun u hu=>et_tru h.i (fun b hb=>(h.b b hb).1) ((f3 u).1 hu)
 have hbg:∀u∈F,u.began=atL L u.first:=by
  intro u hu
  obtain ⟨n,ef,g1,g2,g3⟩:=(htru u hu).f
  unfold atL
  rw [g1,show ((n:Int)).toNat=n by omega,g2,g3]
 have hEF:E=F.filter (fun u=>decide (e.at' - u.began≤(d:Int))):=by
  refine Srt.eq h2 (List.Pairwise.filter _ f2) fun u => ?_
  rw [h3,List.mem_filter,f3,decide_eq_true_eq,et_wn (by omega) h hL he]
 refine ⟨?_,?_⟩
 ·rw [hEF,List.filter_map]
  congr 1
  refine List.filter_congr ?_
  intro u hu
  show decide (e.at' - u.began≤(d:Int))=decide (e.at' - atL L u.first≤(d:Int))
  rw [hbg u hu]
 ·intro m hm
  obtain ⟨u,hu,rfl⟩:=List.mem_map.1 hm
  obtain ⟨n,ef,g1,g2,g3⟩:=(htru u hu).f
  obtain ⟨e',t,he',ht,hg⟩:=(f3 u).1 hu
  have hf:u.first≤(i:Int):=by
   rw [goE_first hg]
   rcases ht with ht|⟨b,_,rfl⟩
   ·have:=wt_first i t ht;omega
   ·show (i:Int)≤i;omega
  exact ⟨by show 0≤u.first;omega,hf⟩
structure WdR (s:ByteArray) (d:Nat) (c0 c1:List In) (L:List Evt):Prop where
 p0:PatK s c0 L
 p1:PatK (s++⟨#[64]⟩++numS d) c1 L
 w:∀(i:Nat) (e:Evt) (A B:List Mt),L[i]? = some e→(outS (bI ⟨#[49,49,49]⟩) c1 (beginsS c1) 200 200 ⟨[],0,0,false⟩ L)[i]? = some A→(outS (bI ⟨#[49,49,49]⟩) c0 (beginsS c0) 200 200 ⟨[],0,0,false⟩ L)[i]? = some B→A=B.filter (fun m=>decide (e.at' - atL L m.first≤(d:Int)))∧∀m∈B,0≤m.first∧m.first≤(i:Int)
 s0:∀l∈outS (bI ⟨#[49,49,49]⟩) c0 (beginsS c0) 200 200 ⟨[],0,0,false⟩ L,l.length≤200∧∀m∈l,MtS m
 s1:∀l∈outS (bI ⟨#[49,49,49]⟩) c1 (beginsS c1) 200 200 ⟨[],0,0,false⟩ L,l.length≤200∧∀m∈l,MtS m
def WdT (s:ByteArray) (d:Nat):Prop:=∃c0 c1:List In,∀L:List Evt,GoesE (bI ⟨#[49,49,49]⟩) 0 L→L.length≤12→WdR s d c0 c1 L
theorem okB_is {c:List In} (h:okB c=true):validB c 60=true∧inOkB c=true∧freeB c (beginsS c) 12=true∧Inb c∧∀b∈beginsS c,b+1<c.length∧∃x,c[b]? = some x∧x.op=0:=by
 unfold okB at h
 simp only [Bool.and_eq_true] at h
 obtain ⟨⟨h1,h2⟩,h3⟩:=h
 obtain ⟨_,_,hA⟩:=(validB_is h1).all
 refine ⟨h1,h2,h3,hA.inb,?_⟩
 unfold freeB at h3
 simp only [Bool.and_eq_true] at h3
 intro b hb
 obtain ⟨x,hx,h0⟩:=isTk_is ((List.all_eq_true.1 h3.1.1) b hb)
 exact ⟨(hA.inb b x hx).1 (Or.inl h0),x,hx,h0⟩
theorem progB_size4 {sc s:ByteArray} {c:List In} (h:progB sc s=some c):s.size≤1000:=by
 unfold progB at h
 split at h
 ·rename_i h1;omega
 ·cases h
theorem wnd_of {s:ByteArray} (h:wndB s=true) {d:Nat} (hd:d<40):WdT s d:=by
 unfold wndB at h
 split at h
 ·rename_i c0 p0
  simp only [Bool.and_eq_true,List.all_eq_true,List.mem_range] at h
  obtain ⟨h0,h1⟩:=h
  have h2:=h1 d hd
  split at h2
  ·rename_i c1 p1
   simp only [Bool.and_eq_true] at h2
   obtain ⟨k1,k2⟩:=h2
   obtain ⟨v0,i0,f0,I0,b0⟩:=okB_is h0
   obtain ⟨v1,i1,f1,I1,b1⟩:=okB_is k1
   have hW:=winB_is k2 I0 b0
   refine ⟨c0,c1,fun L hg hL => ?_⟩
   have o0:∀i e,L[i]? = some e→(feedS (bI ⟨#[49,49,49]⟩) c0 (beginsS c0) 200 200 (runS (bI ⟨#[49,49,49]⟩) c0 (beginsS c0) 200 200 ⟨[],0,0,false⟩ (L.take i)) e).2.2=0:=fun i e hi=>(free_of f0 hL hg hi).1
   have o1:∀i e,L[i]? = some e→(feedS (bI ⟨#[49,49,49]⟩) c1 (beginsS c1) 200 200 (runS (bI ⟨#[49,49,49]⟩) c1 (beginsS c1) 200 200 ⟨[],0,0,false⟩ (L.take i)) e).2.2=0:=fun i e hi=>(free_of f1 hL hg hi).1
   refine ⟨⟨progB_is p0 v0 i0,progB_size4 p0,o0⟩,⟨progB_is p1 v1 i1,progB_size4 p1,o1⟩,?_,out_small hL I0 (fun b hb=>(b0 b hb).1) o0,out_small hL I1 (fun b hb=>(b1 b hb).1) o1⟩
   intro i e A B he hA hB
   exact wn_out hW I1 (fun b hb=>(b1 b hb).1) (goes_rise hg) o0 o1 he hA hB
  ·cases h2
 ·cases h
structure CutK (s t:ByteArray) (n:Nat):Prop where
 z:s.size≤1000
 le:n≤s.size
 a:∀i (h:i<s.size),i<n→¬((s[i].toNat:Nat):Int)=64
 ct:(n=s.size∧t=s)∨(∃h:n<s.size,((s[n].toNat:Nat):Int)=64∧t=s.extract 0 n∧t.size=n)
def cutB (s:ByteArray) (n:Nat):Bool:=decide (s.size≤1000)&&decide (n≤s.size)&&((List.range n).all fun i => !decide (((s.data.toList.getD i 0).toNat:Int)=64))
theorem getD_at (s:ByteArray) (i:Nat) (h:i<s.size):s.data.toList.getD i 0=s[i]:=by
 have h2:i<s.data.toList.length:=by simpa using h
 rw [List.getD_eq_getElem?_getD,List.getElem?_eq_getElem h2]
 rfl
theorem cutB_a {s:ByteArray} {n:Nat} (h:cutB s n=true):s.size≤1000∧n≤s.size∧∀i (hi:i<s.size),i<n→¬((s[i].toNat:Nat):Int)=64:=by
 unfold cutB at h
 simp only [Bool.and_eq_true,decide_eq_true_eq,List.all_eq_true,List.mem_range,Bool.not_eq_true',decide_eq_false_iff_not] at h
 refine ⟨h.1.1,h.1.2,fun i hi hn => ?_⟩
 have:=h.2 i hn
 rw [getD_at s i hi] at this
 exact this
theorem cut_all {s:ByteArray} (h:cutB s s.size=true):CutK s s s.size:=by
 obtain ⟨h1,h2,h3⟩:=cutB_a h
 exact ⟨h1,h2,h3,Or.inl ⟨rfl,rfl⟩⟩
theorem cut_at {s t:ByteArray} {n:Nat} (h:cutB s n=true) (hn:n<s.size) (h64:((s.data.toList.getD n 0).toNat:Int)=64) (ht:s.extract 0 n=t) (hz:t.size=n):CutK s t n:=by
 obtain ⟨h1,h2,h3⟩:=cutB_a h
 refine ⟨h1,h2,h3,Or.inr ⟨hn,?_,ht.symm,hz⟩⟩
 rw [getD_at s n hn] at h64
 exact h64
theorem namesW_at:∀k,k<10→∃s t n,namesC[k]? = some (.string s)∧CutK s t n∧wndB t=true:=by
 intro k hk
 rcases (show k=0∨k=1∨k=2∨k=3∨k=4∨k=5∨k=6∨k=7∨k=8∨k=9 by omega) with rfl|rfl|rfl|rfl|rfl|rfl|rfl|rfl|rfl|rfl
 ·exact ⟨_,_,_,rfl,cut_all (s:=⟨#[97,65,32,98,91,120,62,65,120,93]⟩) (by kernel_rfl),wnd0⟩
 ·exact ⟨_,_,_,rfl,cut_all (s:=⟨#[97,65,46,42,98,91,120,62,65,120,93]⟩) (by kernel_rfl),wnd1⟩
 ·exact ⟨_,_,_,rfl,cut_all (s:=⟨#[97,65,46,42,98,66,91,120,62,65,120,93,46,42,99,91,120,60,66,120,93]⟩) (by kernel_rfl),wnd2⟩
 ·exact ⟨_,_,_,rfl,cut_all (s:=⟨#[40,97,65,124,97,66,41,98,42,99]⟩) (by kernel_rfl),wnd3⟩
 ·exact ⟨_,_,_,rfl,cut_all (s:=⟨#[40,97,65,32,98,124,98,66,32,97,41,99,67]⟩) (by kernel_rfl),wnd4⟩
 ·exact ⟨_,_,_,rfl,cut_all (s:=⟨#[97,65,40,98,91,120,61,65,120,93,124,99,91,120,35,65,120,93,41,43]⟩) (by kernel_rfl),wnd5⟩
 ·exact ⟨_,_,_,rfl,cut_all (s:=⟨#[97,65,91,120,62,49,93,98,123,48,50,125,99,66,91,116,60,65,116,43,57,93]⟩) (by kernel_rfl),wnd6⟩
 ·exact ⟨⟨#[40,97,65,124,97,65,46,41,98,66,91,120,60,65,120,42,50,93,64,50,48]⟩,⟨#[40,97,65,124,97,65,46,41,98,66,91,120,60,65,120,42,50,93]⟩,18,rfl,cut_at (by kernel_rfl) (by decide) (by kernel_rfl) (by kernel_rfl) rfl,wnd7⟩
 ·exact ⟨_,_,_,rfl,cut_all (s:=⟨#[99,65,46,123,48,51,125,99,66,91,120,61,65,120,45,49,93]⟩) (by kernel_rfl),wnd8⟩
 ·exact ⟨⟨#[97,65,46,42,97,66,91,120,62,65,120,93,64,49,50]⟩,⟨#[97,65,46,42,97,66,91,120,62,65,120,93]⟩,12,rfl,cut_at (by kernel_rfl) (by decide) (by kernel_rfl) (by kernel_rfl) rfl,wnd9⟩
theorem namedW_any (c:Int) (w:World) (hc:In64 c):Calls Tryz.prog 6 #[.int .i64 c] w fun e w'=>∃s,e=.returned (.string s)∧(∃t n,CutK s t n∧wndB t=true)∧Nw w w':=by
 have HP:Hid (∀W,Calls Tryz.prog 5 #[.int .i64 c,.int .i64 10] W fun e w'=>e=.returned (.int .i64 (pickK c 10))∧w'=W):=fun W=>pickK_any c 10 W hc (by omega) (by omega)
 obtain ⟨k,hk⟩:∃k:Nat,pickK c 10=k:=⟨(pickK c 10).toNat,by have:=pickK_lt (c:=c) (n:=10) (by omega);omega⟩
 have hk10:k<10:=by have:=pickK_lt (c:=c) (n:=10) (by omega);omega
 rw [hk] at HP
 obtain ⟨s,t,n,hs,hC,hW⟩:=namesW_at k hk10
 have HN:Hid (∃t n,CutK s t n∧wndB t=true):=⟨t,n,hC,hW⟩
 have HB:Hid (Bx (w.alloc (.cells namesC.toArray 39)) w.heap.size namesC):=Bx.new w namesC _
 have hcell:=HB.out.cell hs
 unfold namesC at hcell
 have HK:Hid (∀o,Nw w (w.alloc o)):=fun o=>(Kp.refl _ _).alloc _
 have hki:(k:Int)<10:=by omega
 clear hk hs hC hW HB
 go_enter Tryz.func6,Tryz.ntmps6
 go_wp2_with fail
 refine (HP.out _).mono ?_
 rintro e1 w1 ⟨rfl,rfl⟩
 go_wp2
 go_ret
 exact ⟨s,rfl,HN.out,HK.out _⟩
theorem small_w0 (w:World):Calls Tryz.prog 29 #[.int .i64 0] w fun e w'=>e=.returned (.string (numS 0))∧w'=w:=by
 go_enter Tryz.func29,Tryz.ntmps29
 go_wp2
 go_ret
 exact ⟨by kernel_rfl,rfl⟩
theorem small_w1 (w:World):Calls Tryz.prog 29 #[.int .i64 1] w fun e w'=>e=.returned (.string (numS 1))∧w'=w:=by
 go_enter Tryz.func29,Tryz.ntmps29
 go_wp2
 go_ret
 exact ⟨by kernel_rfl,rfl⟩
theorem small_w2 (w:World):Calls Tryz.prog 29 #[.int .i64 2] w fun e w'=>e=.returned (.string (numS 2))∧w'=w:=by
 go_enter Tryz.func29,Tryz.ntmps29
 go_wp2
 go_ret
 exact ⟨by kernel_rfl,rfl⟩
theorem small_w3 (w:World):Calls Tryz.prog 29 #[.int .i64 3] w fun e w'=>e=.returned (.string (numS 3))∧w'=w:=by
 go_enter Tryz.func29,Tryz.ntmps29
 go_wp2
 go_ret
 exact ⟨by kernel_rfl,rfl⟩
theorem small_w4 (w:World):Calls Tryz.prog 29 #[.int .i64 4] w fun e w'=>e=.returned (.string (numS 4))∧w'=w:=by
 go_enter Tryz.func29,Tryz.ntmps29
 go_wp2
 go_ret
 exact ⟨by kernel_rfl,rfl⟩
theorem small_w5 (w:World):Calls Tryz.prog 29 #[.int .i64 5] w fun e w'=>e=.returned (.string (numS 5))∧w'=w:=by
 go_enter Tryz.func29,Tryz.ntmps29
 go_wp2
 go_ret
 exact ⟨by kernel_rfl,rfl⟩
theorem small_w6 (w:World):Calls Tryz.prog 29 #[.int .i64 6] w fun e w'=>e=.returned (.string (numS 6))∧w'=w:=by
 go_enter Tryz.func29,Tryz.ntmps29
 go_wp2
 go_ret
 exact ⟨by kernel_rfl,rfl⟩
theorem small_w7 (w:World):Calls Tryz.prog 29 #[.int .i64 7] w fun e w'=>e=.returned (.string (numS 7))∧w'=w:=by
 go_enter Tryz.func29,Tryz.ntmps29
 go_wp2
 go_ret
 exact ⟨by kernel_rfl,rfl⟩
theorem small_w8 (w:World):Calls Tryz.prog 29 #[.int .i64 8] w fun e w'=>e=.returned (.string (numS 8))∧w'=w:=by
 go_enter Tryz.func29,Tryz.ntmps29
 go_wp2
 go_ret
 exact ⟨by kernel_rfl,rfl⟩
theorem small_w9 (w:World):Calls Tryz.prog 29 #[.int .i64 9] w fun e w'=>e=.returned (.string (numS 9))∧w'=w:=by
 go_enter Tryz.func29,Tryz.ntmps29
 go_wp2
 go_ret
 exact ⟨by kernel_rfl,rfl⟩
theorem small_w10 (w:World):Calls Tryz.prog 29 #[.int .i64 10] w fun e w'=>e=.returned (.string (numS 10))∧w'=w:=by
 go_enter Tryz.func29,Tryz.ntmps29
 go_wp2
 go_ret
 exact ⟨by kernel_rfl,rfl⟩
theorem small_w11 (w:World):Calls Tryz.prog 29 #[.int .i64 11] w fun e w'=>e=.returned (.string (numS 11))∧w'=w:=by
 go_enter Tryz.func29,Tryz.ntmps29
 go_wp2
 go_ret
 exact ⟨by kernel_rfl,rfl⟩
theorem small_w12 (w:World):Calls Tryz.prog 29 #[.int .i64 12] w fun e w'=>e=.returned (.string (numS 12))∧w'=w:=by
 go_enter Tryz.func29,Tryz.ntmps29
 go_wp2
 go_ret
 exact ⟨by kernel_rfl,rfl⟩
theorem small_w13 (w:World):Calls Tryz.prog 29 #[.int .i64 13] w fun e w'=>e=.returned (.string (numS 13))∧w'=w:=by
 go_enter Tryz.func29,Tryz.ntmps29
 go_wp2
 go_ret
 exact ⟨by kernel_rfl,rfl⟩
theorem small_w14 (w:World):Calls Tryz.prog 29 #[.int .i64 14] w fun e w'=>e=.returned (.string (numS 14))∧w'=w:=by
 go_enter Tryz.func29,Tryz.ntmps29
 go_wp2
 go_ret
 exact ⟨by kernel_rfl,rfl⟩
theorem small_w15 (w:World):Calls Tryz.prog 29 #[.int .i64 15] w fun e w'=>e=.returned (.string (numS 15))∧w'=w:=by
 go_enter Tryz.func29,Tryz.ntmps29
 go_wp2
 go_ret
 exact ⟨by kernel_rfl,rfl⟩
theorem small_w16 (w:World):Calls Tryz.prog 29 #[.int .i64 16] w fun e w'=>e=.returned (.string (numS 16))∧w'=w:=by
 go_enter Tryz.func29,Tryz.ntmps29
 go_wp2
 go_ret
 exact ⟨by kernel_rfl,rfl⟩
theorem small_w17 (w:World):Calls Tryz.prog 29 #[.int .i64 17] w fun e w'=>e=.returned (.string (numS 17))∧w'=w:=by
 go_enter Tryz.func29,Tryz.ntmps29
 go_wp2
 go_ret
 exact ⟨by kernel_rfl,rfl⟩
theorem small_w18 (w:World):Calls Tryz.prog 29 #[.int .i64 18] w fun e w'=>e=.returned (.string (numS 18))∧w'=w:=by
 go_enter Tryz.func29,Tryz.ntmps29
 go_wp2
 go_ret
 exact ⟨by kernel_rfl,rfl⟩
theorem small_w19 (w:World):Calls Tryz.prog 29 #[.int .i64 19] w fun e w'=>e=.returned (.string (numS 19))∧w'=w:=by
 go_enter Tryz.func29,Tryz.ntmps29
 go_wp2
 go_ret
 exact ⟨by kernel_rfl,rfl⟩
theorem small_w20 (w:World):Calls Tryz.prog 29 #[.int .i64 20] w fun e w'=>e=.returned (.string (numS 20))∧w'=w:=by
 go_enter Tryz.func29,Tryz.ntmps29
 go_wp2
 go_ret
 exact ⟨by kernel_rfl,rfl⟩
theorem small_w21 (w:World):Calls Tryz.prog 29 #[.int .i64 21] w fun e w'=>e=.returned (.string (numS 21))∧w'=w:=by
 go_enter Tryz.func29,Tryz.ntmps29
 go_wp2
 go_ret
 exact ⟨by kernel_rfl,rfl⟩
theorem small_w22 (w:World):Calls Tryz.prog 29 #[.int .i64 22] w fun e w'=>e=.returned (.string (numS 22))∧w'=w:=by
 go_enter Tryz.func29,Tryz.ntmps29
 go_wp2
 go_ret
 exact ⟨by kernel_rfl,rfl⟩
theorem small_w23 (w:World):Calls Tryz.prog 29 #[.int .i64 23] w fun e w'=>e=.returned (.string (numS 23))∧w'=w:=by
 go_enter Tryz.func29,Tryz.ntmps29
 go_wp2
 go_ret
 exact ⟨by kernel_rfl,rfl⟩
theorem small_w24 (w:World):Calls Tryz.prog 29 #[.int .i64 24] w fun e w'=>e=.returned (.string (numS 24))∧w'=w:=by
 go_enter Tryz.func29,Tryz.ntmps29
 go_wp2
 go_ret
 exact ⟨by kernel_rfl,rfl⟩
theorem small_w25 (w:World):Calls Tryz.prog 29 #[.int .i64 25] w fun e w'=>e=.returned (.string (numS 25))∧w'=w:=by
 go_enter Tryz.func29,Tryz.ntmps29
 go_wp2
 go_ret
 exact ⟨by kernel_rfl,rfl⟩
theorem small_w26 (w:World):Calls Tryz.prog 29 #[.int .i64 26] w fun e w'=>e=.returned (.string (numS 26))∧w'=w:=by
 go_enter Tryz.func29,Tryz.ntmps29
 go_wp2
 go_ret
 exact ⟨by kernel_rfl,rfl⟩
theorem small_w27 (w:World):Calls Tryz.prog 29 #[.int .i64 27] w fun e w'=>e=.returned (.string (numS 27))∧w'=w:=by
 go_enter Tryz.func29,Tryz.ntmps29
 go_wp2
 go_ret
 exact ⟨by kernel_rfl,rfl⟩
theorem small_w28 (w:World):Calls Tryz.prog 29 #[.int .i64 28] w fun e w'=>e=.returned (.string (numS 28))∧w'=w:=by
 go_enter Tryz.func29,Tryz.ntmps29
 go_wp2
 go_ret
 exact ⟨by kernel_rfl,rfl⟩
theorem small_w29 (w:World):Calls Tryz.prog 29 #[.int .i64 29] w fun e w'=>e=.returned (.string (numS 29))∧w'=w:=by
 go_enter Tryz.func29,Tryz.ntmps29
 go_wp2
 go_ret
 exact ⟨by kernel_rfl,rfl⟩
theorem small_w30 (w:World):Calls Tryz.prog 29 #[.int .i64 30] w fun e w'=>e=.returned (.string (numS 30))∧w'=w:=by
 go_enter Tryz.func29,Tryz.ntmps29
 go_wp2
 go_ret
 exact ⟨by kernel_rfl,rfl⟩
theorem small_w31 (w:World):Calls Tryz.prog 29 #[.int .i64 31] w fun e w'=>e=.returned (.string (numS 31))∧w'=w:=by
 go_enter Tryz.func29,Tryz.ntmps29
 go_wp2
 go_ret
 exact ⟨by kernel_rfl,rfl⟩
theorem small_w32 (w:World):Calls Tryz.prog 29 #[.int .i64 32] w fun e w'=>e=.returned (.string (numS 32))∧w'=w:=by
 go_enter Tryz.func29,Tryz.ntmps29
 go_wp2
 go_ret
 exact ⟨by kernel_rfl,rfl⟩
theorem small_w33 (w:World):Calls Tryz.prog 29 #[.int .i64 33] w fun e w'=>e=.returned (.string (numS 33))∧w'=w:=by
 go_enter Tryz.func29,Tryz.ntmps29
 go_wp2
 go_ret
 exact ⟨by kernel_rfl,rfl⟩
theorem small_w34 (w:World):Calls Tryz.prog 29 #[.int .i64 34] w fun e w'=>e=.returned (.string (numS 34))∧w'=w:=by
 go_enter Tryz.func29,Tryz.ntmps29
 go_wp2
 go_ret
 exact ⟨by kernel_rfl,rfl⟩
theorem small_w35 (w:World):Calls Tryz.prog 29 #[.int .i64 35] w fun e w'=>e=.returned (.string (numS 35))∧w'=w:=by
 go_enter Tryz.func29,Tryz.ntmps29
 go_wp2
 go_ret
 exact ⟨by kernel_rfl,rfl⟩
theorem small_w36 (w:World):Calls Tryz.prog 29 #[.int .i64 36] w fun e w'=>e=.returned (.string (numS 36))∧w'=w:=by
 go_enter Tryz.func29,Tryz.ntmps29
 go_wp2
 go_ret
 exact ⟨by kernel_rfl,rfl⟩
theorem small_w37 (w:World):Calls Tryz.prog 29 #[.int .i64 37] w fun e w'=>e=.returned (.string (numS 37))∧w'=w:=by
 go_enter Tryz.func29,Tryz.ntmps29
 go_wp2
 go_ret
 exact ⟨by kernel_rfl,rfl⟩
theorem small_w38 (w:World):Calls Tryz.prog 29 #[.int .i64 38] w fun e w'=>e=.returned (.string (numS 38))∧w'=w:=by
 go_enter Tryz.func29,Tryz.ntmps29
 go_wp2
 go_ret
 exact ⟨by kernel_rfl,rfl⟩
theorem small_w39 (w:World):Calls Tryz.prog 29 #[.int .i64 39] w fun e w'=>e=.returned (.string (numS 39))∧w'=w:=by
 go_enter Tryz.func29,Tryz.ntmps29
 go_wp2
 go_ret
 exact ⟨by kernel_rfl,rfl⟩
theorem small_num:∀d:Nat,d<40→∀w:World,Calls Tryz.prog 29 #[.int .i64 (d:Int)] w fun e w'=>e=.returned (.string (numS d))∧w'=w:=by
 intro d hd
 match d,hd with
 | 0,_=>exact small_w0
 | 1,_=>exact small_w1
 | 2,_=>exact small_w2
 | 3,_=>exact small_w3
 | 4,_=>exact small_w4
 | 5,_=>exact small_w5
 | 6,_=>exact small_w6
 | 7,_=>exact small_w7
 | 8,_=>exact small_w8
 | 9,_=>exact small_w9
 | 10,_=>exact small_w10
 | 11,_=>exact small_w11
 | 12,_=>exact small_w12
 | 13,_=>exact small_w13
 | 14,_=>exact small_w14
 | 15,_=>exact small_w15
 | 16,_=>exact small_w16
 | 17,_=>exact small_w17
 | 18,_=>exact small_w18
 | 19,_=>exact small_w19
 | 20,_=>exact small_w20
 | 21,_=>exact small_w21
 | 22,_=>exact small_w22
 | 23,_=>exact small_w23
 | 24,_=>exact small_w24
 | 25,_=>exact small_w25
 | 26,_=>exact small_w26
 | 27,_=>exact small_w27
 | 28,_=>exact small_w28
 | 29,_=>exact small_w29
 | 30,_=>exact small_w30
 | 31,_=>exact small_w31
 | 32,_=>exact small_w32
 | 33,_=>exact small_w33
 | 34,_=>exact small_w34
 | 35,_=>exact small_w35
 | 36,_=>exact small_w36
 | 37,_=>exact small_w37
 | 38,_=>exact small_w38
 | 39,_=>exact small_w39
 | (d+40),hd=>omega
theorem itoaW_any (d:Nat) (hd:d<40) (w:World):Calls Tryz.prog 8 #[.int .i64 (d:Int)] w fun e w'=>e=.returned (.string (numS d))∧w'=w:=by
 have HS:Hid (∀w:World,Calls Tryz.prog 29 #[.int .i64 (d:Int)] w fun e w'=>e=.returned (.string (numS d))∧w'=w):=small_num d hd
 have hd0:(0:Int)≤(d:Int):=by omega
 have hd1:(d:Int)<100:=by omega
 generalize numS d=S at *
 have H0:Hid (Calls Tryz.prog 20 #[.int .i64 (d:Int),.int .i64 10] w fun e w'=>e=.returned (.string S)∧w'=w):=by
  show Calls _ _ _ _ _
  go_enter Tryz.func20,Tryz.ntmps20
  go_wp2_with fail
  refine (HS.out _).mono ?_
  rintro e w1 ⟨rfl,rfl⟩
  go_wp2
  go_ret
  exact ⟨rfl,rfl⟩
 have H1:Hid (Calls Tryz.prog 14 #[.int .i64 (d:Int)] w fun e w'=>e=.returned (.string S)∧w'=w):=by
  show Calls _ _ _ _ _
  go_enter Tryz.func14,Tryz.ntmps14
  go_wp2_with fail
  refine H0.out.mono ?_
  rintro e w1 ⟨rfl,rfl⟩
  go_wp2
  go_ret
  exact ⟨rfl,rfl⟩
 go_enter Tryz.func8,Tryz.ntmps8
 go_wp2_with fail
 refine H1.out.mono ?_
 rintro e w1 ⟨rfl,rfl⟩
 go_wp2
 go_ret
 exact ⟨rfl,rfl⟩
theorem numS_size (d:Nat):(numS d).size≤2:=by
 unfold numS
 split
 ·show (1:Nat)≤2;omega
 ·show (2:Nat)≤2;omega
end Go.Proofs.YtcboiapggnmpfabGreatDoor
