import Derived.Test.YtcboiapggnmpfabGreatQbs
import Derived.Test.YtcboiapggnmpfabGreatQbz
namespace Go.Proofs.YtcboiapggnmpfabGreat
set_option maxRecDepth 100000
set_option maxHeartbeats 4000000
set_option linter.unusedSimpArgs false
set_option linter.unusedVariables false
open Go.RowKit
theorem outS_get (sc:List Int) (l:List In) (bs:List Nat) (live found:Int):∀(L:List Evt) (r:Rst) (i:Nat) (e:Evt),L[i]? = some e→(outS sc l bs live found r L)[i]? = some (feedS sc l bs live found (runS sc l bs live found r (L.take i)) e).2.1:=by
 intro L
 induction L with
 | nil=>intro r i e h;simp at h
 | cons x L ih =>
  intro r i e h
  cases i with
  | zero=>simp at h;subst h;rfl
  | succ i=>exact ih (feedS sc l bs live found r x).1 i e (by simpa using h)
def oneB (Ts:List Tst) (n:Nat) (c:List In):Bool :=
 validB c 300&&inOkB c&&plainB c&&testsB Ts c&&((allV Ts).all fun v=>tabOkB c (tvOf v))&&((beginsS c).all fun b=>isTk c b)&&decide ((tksZ c).length*n≤200)
theorem isTk_is {c:List In} {b:Nat} (h:isTk c b=true):∃x,c[b]? = some x∧x.op=0:=by
 unfold isTk at h
 split at h
 ·rename_i x hx;exact ⟨x,hx,by simpa using h⟩
 ·cases h
structure OneK (Ts:List Tst) (n:Nat) (c:List In):Prop where
 v:validB c 300=true
 o:inOkB c=true
 k:CodeK Ts c (beginsS c)
 l:(tksZ c).length*n≤200
theorem oneB_is {Ts:List Tst} {n:Nat} {c:List In} (h:oneB Ts n c=true):OneK Ts n c:=by
 unfold oneB at h
 simp only [Bool.and_eq_true,decide_eq_true_eq] at h
 obtain ⟨⟨⟨⟨⟨⟨h1,h2⟩,h3⟩,h4⟩,h5⟩,h6⟩,h7⟩:=h
 obtain ⟨_,_,hA⟩:=(validB_is h1).all
 exact ⟨h1,h2,⟨hA.inb,h3,h4,fun v hv=>(List.all_eq_true.1 h5) v hv,fun b hb=>isTk_is ((List.all_eq_true.1 h6) b hb)⟩,h7⟩
theorem OneK.bl {Ts:List Tst} {n:Nat} {c:List In} (h:OneK Ts n c):∀b∈beginsS c,b+1<c.length:=by
 intro b hb
 obtain ⟨x,hx,h0⟩:=h.k.b b hb
 exact (h.k.i b x hx).1 (Or.inl h0)
theorem OneK.ok {Ts:List Tst} {n:Nat} {c:List In} (h:OneK Ts n c) {sc:List Int} {L:List Evt} (hg:GoesE sc 0 L) (hL:L.length≤n) (hn:n≤200):∀i e,L[i]? = some e→(feedS sc c (beginsS c) 200 200 (runS sc c (beginsS c) 200 200 ⟨[],0,0,false⟩ (L.take i)) e).2.2=0:=by
 intro i e he
 have hl:=h.l
 have hm:(tksZ c).length*L.length≤(tksZ c).length*n:=Nat.mul_le_mul_left _ hL
 exact (free_plain (bs:=beginsS c) (live:=200) (found:=200) h.k.p hg (by omega) (by omega) i (Nat.le_of_lt (List.getElem?_eq_some_iff.1 he).1)).2 e he
theorem OneK.pat {Ts:List Tst} {n:Nat} {c:List In} (h:OneK Ts n c) {s:ByteArray} (hp:progB ⟨#[49,49,49]⟩ s=some c) (hz:s.size≤1000) {L:List Evt} (hg:GoesE (bI ⟨#[49,49,49]⟩) 0 L) (hL:L.length≤n) (hn:n≤200):PatK s c L :=
 ⟨progB_is hp h.v h.o,hz,h.ok hg hL hn⟩
theorem goes_kinds {sc:List Int} {L:List Evt} {now:Int} (hg:GoesE sc now L):∀x∈L,Knd x:=by
 intro x hx
 obtain ⟨i,hi⟩:=List.mem_iff_getElem?.1 hx
 exact (GoesE.last i x hg hi).2.2
theorem outS_ext {sc:List Int} {c c':List In} {bs bs':List Nat} {L:List Evt} (h:∀i e,L[i]? = some e→(feedS sc c bs 200 200 (runS sc c bs 200 200 ⟨[],0,0,false⟩ (L.take i)) e).2.1=(feedS sc c' bs' 200 200 (runS sc c' bs' 200 200 ⟨[],0,0,false⟩ (L.take i)) e).2.1) :
  outS sc c bs 200 200 ⟨[],0,0,false⟩ L=outS sc c' bs' 200 200 ⟨[],0,0,false⟩ L:=by
 apply List.ext_getElem?
 intro i
 cases he:L[i]? with
 | none =>
  rw [List.getElem?_eq_none_iff] at he
  rw [List.getElem?_eq_none_iff.2 (by rw [outS_len];exact he),List.getElem?_eq_none_iff.2 (by rw [outS_len];exact he)]
 | some e=>rw [outS_get _ _ _ _ _ L _ i e he,outS_get _ _ _ _ _ L _ i e he,h i e he]
theorem alike_out {codes:List (List In)} {Ts:List Tst} {d:Nat} (hK:∀c∈codes,OneK Ts d c) (hchk:chkD eqsB (letters codes Ts) d [(codes.map beginsS).map maskOf]=true) (hd:d≤200) {sc:List Int} {L:List Evt} (hg:GoesE sc 0 L) (hL:L.length≤d)
  {n:Nat} {c c0:List In} (hc:codes[n]? = some c) (hc0:codes[0]? = some c0):outS sc c (beginsS c) 200 200 ⟨[],0,0,false⟩ L=outS sc c0 (beginsS c0) 200 200 ⟨[],0,0,false⟩ L:=by
 have k:=hK c (List.mem_of_getElem? hc)
 have k0:=hK c0 (List.mem_of_getElem? hc0)
 apply outS_ext
 intro i e he
 obtain ⟨E,h1,h2,h3⟩:=out_mean k.k.i k.bl (k.ok hg hL hd) i e he
 obtain ⟨E0,g1,g2,g3⟩:=out_mean k0.k.i k0.bl (k0.ok hg hL hd) i e he
 have:E=E0:=by
  refine Srt.eq h2 g2 fun u => ?_
  rw [h3,g3]
  refine chk_eq (codes:=codes) (bss:=codes.map beginsS) (by simp) ?_ hchk (goes_kinds hg) hL he hc (by simp [hc]) hc0 (by simp [hc0]) u
  intro m x bs hx hb
  simp [hx] at hb
  subst hb
  exact (hK x (List.mem_of_getElem? hx)).k
 rw [h1,g1,this]
theorem out_facts {Ts:List Tst} {n:Nat} {c:List In} (k:OneK Ts n c) {sc:List Int} {L:List Evt} (hg:GoesE sc 0 L) (hL:L.length≤n) (hn:n≤200):∀l∈outS sc c (beginsS c) 200 200 ⟨[],0,0,false⟩ L,l.length≤1000∧∀m∈l,MtOk m:=by
 intro l hl
 obtain ⟨i,hi⟩:=List.mem_iff_getElem?.1 hl
 have hil:i<L.length:=by have:=(List.getElem?_eq_some_iff.1 hi).1;rwa [outS_len] at this
 obtain ⟨e,he⟩:∃e,L[i]? = some e:=⟨L[i],by simp [hil]⟩
 rw [outS_get _ _ _ _ _ L _ i e he] at hi
 obtain ⟨E,h1,h2,h3⟩:=out_mean k.k.i k.bl (k.ok hg hL hn) i e he
 rw [h1] at hi
 cases hi
 have hu:∀u∈E,Kd L [0] L.length u:=by
  intro u hu
  obtain ⟨f,ef,g1,_,g3⟩:=(et_plain k.k.p he u).1 ((h3 u).1 hu)
  have hf:=(List.getElem?_eq_some_iff.1 g1).1
  refine ⟨et_tru k.k.i k.bl ((h3 u).1 hu),?_,?_,?_⟩
  ·rw [g3];simp [thrB]
  ·rw [g3];show (f:Int)<_;omega
  ·rw [g3];exact ⟨rfl,rfl,rfl,rfl⟩
 refine ⟨?_,?_⟩
 ·have:=kd_len h2 hu
  simp at this ⊢
  omega
 ·intro m hm
  obtain ⟨u,hm1,rfl⟩:=List.mem_map.1 hm
  obtain ⟨f,ef,g1,_,g3⟩:=(et_plain k.k.p he u).1 ((h3 u).1 hm1)
  have hf:=(List.getElem?_eq_some_iff.1 g1).1
  rw [g3]
  constructor <;> (simp only [matchT,thrB,nmb0];unfold In64;omega)
def testsOf (c:List In):List Tst:=c.foldr (fun x l=>if x.op=2∧l.contains x.test=false then x.test::l else l) []
theorem progB_size {sc s:ByteArray} {c:List In} (h:progB sc s=some c):s.size≤1000:=by
 unfold progB at h
 split at h
 ·rename_i h1;omega
 ·cases h
noncomputable def starB (s:ByteArray):Bool :=
 match progB ⟨#[49,49,49]⟩ (⟨#[40]⟩++s++⟨#[41,42]⟩),progB ⟨#[49,49,49]⟩ (⟨#[40]⟩++s++⟨#[41,43]⟩),progB ⟨#[49,49,49]⟩ (⟨#[40]⟩++s++⟨#[41,123,48,57,125]⟩) with
 | some c0,some c1,some c2=>oneB (testsOf c0) 9 c0&&oneB (testsOf c0) 9 c1&&oneB (testsOf c0) 9 c2&&chkD eqsB (letters [c0,c1,c2] (testsOf c0)) 9 [([c0,c1,c2].map beginsS).map maskOf]
 | _,_,_=>false
def StarT (s:ByteArray):Prop:=∃c0 c1 c2:List In,∀L:List Evt,GoesE (bI ⟨#[49,49,49]⟩) 0 L→L.length≤9→PatK (⟨#[40]⟩++s++⟨#[41,42]⟩) c0 L∧PatK (⟨#[40]⟩++s++⟨#[41,43]⟩) c1 L∧PatK (⟨#[40]⟩++s++⟨#[41,123,48,57,125]⟩) c2 L ∧
 outS (bI ⟨#[49,49,49]⟩) c1 (beginsS c1) 200 200 ⟨[],0,0,false⟩ L=outS (bI ⟨#[49,49,49]⟩) c0 (beginsS c0) 200 200 ⟨[],0,0,false⟩ L∧outS (bI ⟨#[49,49,49]⟩) c2 (beginsS c2) 200 200 ⟨[],0,0,false⟩ L=outS (bI ⟨#[49,49,49]⟩) c0 (beginsS c0) 200 200 ⟨[],0,0,false⟩ L ∧
 ∀l∈outS (bI ⟨#[49,49,49]⟩) c0 (beginsS c0) 200 200 ⟨[],0,0,false⟩ L,l.length≤1000∧∀m∈l,MtOk m
theorem star_of {s:ByteArray} (h:starB s=true):StarT s:=by
 unfold starB at h
 split at h
 ·rename_i c0 c1 c2 p0 p1 p2
  simp only [Bool.and_eq_true] at h
  obtain ⟨⟨⟨h0,h1⟩,h2⟩,hc⟩:=h
  have k0:=oneB_is h0
  have k1:=oneB_is h1
  have k2:=oneB_is h2
  have hK:∀c∈[c0,c1,c2],OneK (testsOf c0) 9 c:=by
   intro c hm
   rcases List.mem_cons.1 hm with e|hm
   ·rw [e];exact k0
   rcases List.mem_cons.1 hm with e|hm
   ·rw [e];exact k1
   rcases List.mem_cons.1 hm with e|hm
   ·rw [e];exact k2
   ·simp at hm
  refine ⟨c0,c1,c2,fun L hg hL=>⟨k0.pat p0 (progB_size p0) hg hL (by omega),k1.pat p1 (progB_size p1) hg hL (by omega),k2.pat p2 (progB_size p2) hg hL (by omega),?_,?_,out_facts k0 hg hL (by omega)⟩⟩
  ·exact alike_out (codes:=[c0,c1,c2]) hK hc (by omega) hg hL (n:=1) rfl rfl
  ·exact alike_out (codes:=[c0,c1,c2]) hK hc (by omega) hg hL (n:=2) rfl rfl
 ·cases h
def smallC:List Value:=[.string ⟨#[97]⟩,.string ⟨#[98]⟩,.string ⟨#[46]⟩,.string ⟨#[97,98]⟩,.string ⟨#[97,124,99]⟩,.string ⟨#[40,97,98,41]⟩,.string ⟨#[97,91,120,60,53,93]⟩,.string ⟨#[97,63,98]⟩,.string ⟨#[97,42,98]⟩,.string ⟨#[98,97,43]⟩,.string ⟨#[46,98]⟩,.string ⟨#[97,91,120,61,51,93,99]⟩,.string ⟨#[40,97,124,98,41]⟩,.string ⟨#[99,91,116,35,52,93]⟩,.string ⟨#[97,91,120,62,50,38,120,60,55,93]⟩,.string ⟨#[98,123,48,50,125]⟩,.string ⟨#[40,97,63,99,63,41]⟩]
theorem star0:starB ⟨#[97]⟩=true:=by kernel_rfl
theorem star1:starB ⟨#[98]⟩=true:=by kernel_rfl
theorem star2:starB ⟨#[46]⟩=true:=by kernel_rfl
theorem star3:starB ⟨#[97,98]⟩=true:=by kernel_rfl
theorem star4:starB ⟨#[97,124,99]⟩=true:=by kernel_rfl
theorem star5:starB ⟨#[40,97,98,41]⟩=true:=by kernel_rfl
theorem star6:starB ⟨#[97,91,120,60,53,93]⟩=true:=by kernel_rfl
theorem star7:starB ⟨#[97,63,98]⟩=true:=by kernel_rfl
theorem star8:starB ⟨#[97,42,98]⟩=true:=by kernel_rfl
theorem star9:starB ⟨#[98,97,43]⟩=true:=by kernel_rfl
theorem star10:starB ⟨#[46,98]⟩=true:=by kernel_rfl
theorem star11:starB ⟨#[97,91,120,61,51,93,99]⟩=true:=by kernel_rfl
theorem star12:starB ⟨#[40,97,124,98,41]⟩=true:=by kernel_rfl
theorem star13:starB ⟨#[99,91,116,35,52,93]⟩=true:=by kernel_rfl
theorem star14:starB ⟨#[97,91,120,62,50,38,120,60,55,93]⟩=true:=by kernel_rfl
theorem star15:starB ⟨#[98,123,48,50,125]⟩=true:=by kernel_rfl
theorem star16:starB ⟨#[40,97,63,99,63,41]⟩=true:=by kernel_rfl
theorem small_at:∀k,k<17→∃s,smallC[k]? = some (.string s)∧StarT s:=by
 intro k hk
 rcases (show k=0∨k=1∨k=2∨k=3∨k=4∨k=5∨k=6∨k=7∨k=8∨k=9∨k=10∨k=11∨k=12∨k=13∨k=14∨k=15∨k=16 by omega) with rfl|rfl|rfl|rfl|rfl|rfl|rfl|rfl|rfl|rfl|rfl|rfl|rfl|rfl|rfl|rfl|rfl
 ·exact ⟨_,rfl,star_of star0⟩
 ·exact ⟨_,rfl,star_of star1⟩
 ·exact ⟨_,rfl,star_of star2⟩
 ·exact ⟨_,rfl,star_of star3⟩
 ·exact ⟨_,rfl,star_of star4⟩
 ·exact ⟨_,rfl,star_of star5⟩
 ·exact ⟨_,rfl,star_of star6⟩
 ·exact ⟨_,rfl,star_of star7⟩
 ·exact ⟨_,rfl,star_of star8⟩
 ·exact ⟨_,rfl,star_of star9⟩
 ·exact ⟨_,rfl,star_of star10⟩
 ·exact ⟨_,rfl,star_of star11⟩
 ·exact ⟨_,rfl,star_of star12⟩
 ·exact ⟨_,rfl,star_of star13⟩
 ·exact ⟨_,rfl,star_of star14⟩
 ·exact ⟨_,rfl,star_of star15⟩
 ·exact ⟨_,rfl,star_of star16⟩
theorem mtsC_get0 (l:List Mt):∀(i j:Nat) (x:Mt),l[i]? = some x→j<6→(mtsC l)[i*6+j]? = (mtC x)[j]?:=by
 induction l with
 | nil=>intro i j x h;simp at h
 | cons y r ih =>
  intro i j x h hj
  have e:mtsC (y::r)=mtC y++mtsC r:=by simp [mtsC]
  have hl:(mtC y).length=6:=rfl
  rw [e]
  cases i with
  | zero=>simp at h;subst h;rw [List.getElem?_append_left (by omega)];simp
  | succ i =>
   simp at h
   rw [List.getElem?_append_right (by omega),hl]
   have:(i+1)*6+j - 6=i*6+j:=by omega
   rw [this];exact ih i j x h hj
theorem mts_of0 {w:World} {base:Nat} {mp:Option Addr} {mc:Nat} {l:List Mt} (h:w.ownsRow base 36 6 (.slice mp l.length mc) l.length (mtsC l)):MtsP w mp l:=by
 intro hne
 obtain ⟨g,c',e⟩:=owns_some h (List.length_pos_iff.2 hne)
 simp only [Value.slice.injEq,true_and] at e
 obtain ⟨rfl,rfl⟩:=e
 refine ⟨g,rfl,(h.lt g rfl).2,?_⟩
 intro i x hx j v hv
 have hj:j<6:=by have:=(List.getElem?_eq_some_iff.1 hv).1;simpa [mtC] using this
 exact owns_cell h (i*6+j) (by rw [mtsC_get0 l i j x hx hj];exact hv)
theorem sameAll_same (p p':Option Addr) (cap cap' B B':Nat) (hs hs':List (Value×List Mt)) (w:World) (hm:Mds w B (.slice p hs.length cap) hs) (hm':Mds w B' (.slice p' hs.length cap') hs') (he:hs.map (·.2)=hs'.map (·.2)) (hL:hs.length≤1000) (hok:∀x∈hs,x.2.length≤1000∧∀m∈x.2,MtOk m) :
  Calls Tryz.prog 13 #[.slice p hs.length cap,.slice p' hs.length cap'] w fun e w'=>e=.returned (.bool true)∧Nw w w':=by
 have hll:hs.length=hs'.length:=by have:=congrArg List.length he;simpa using this
 have HM:Hid (Mds w B (.slice p hs.length cap) hs):=hm
 have HM':Hid (Mds w B' (.slice p' hs.length cap') hs'):=hm'
 have HE:Hid (hs.map (·.2)=hs'.map (·.2)):=he
 have HLL:Hid (hs.length=hs'.length):=hll
 have HOK:Hid (∀x∈hs,x.2.length≤1000∧∀m∈x.2,MtOk m):=hok
 clear hm hm' he hok hll
 go_enter Tryz.func13,Tryz.ntmps13
 go_wp2
 go_loopg [5] hs.length (fun m v5 wr=>∃i:Nat,v5=.int .i64 i∧m=hs.length - i∧i≤hs.length∧Nw w wr)
 case atStart=>exact ⟨0,rfl,rfl,by omega,Kp.refl _ _⟩
 case round =>
  obtain ⟨i,rfl,hmm,hil,hN⟩:=hrel
  have HMM:Hid (_=hs.length - i):=hmm
  have HN:Hid (Nw w wr):=hN
  clear hmm
  by_cases hi:i<hs.length
  ·obtain ⟨x,hx⟩:∃x,hs[i]? = some x:=⟨hs[i],by simp [hi]⟩
   obtain ⟨x',hx'⟩:∃x',hs'[i]? = some x':=⟨hs'[i]'(by rw [←HLL.out];exact hi),by simp [←HLL.out,hi]⟩
   obtain ⟨mv,ml⟩:=x
   obtain ⟨mv',ml'⟩:=x'
   have hml:ml'=ml:=by
    have h1:(hs.map (·.2))[i]? = some ml:=by simp [hx]
    rw [HE.out] at h1
    simp [hx'] at h1
    exact h1
   subst hml
   have hme:=HM.out.each _ (List.mem_of_getElem? hx)
   have hme':=HM'.out.each _ (List.mem_of_getElem? hx')
   simp only at hme hme'
   obtain ⟨mp,mc,e2⟩:=ownsLenX hme
   obtain ⟨mp',mc',e2'⟩:=ownsLenX hme'
   subst e2
   subst e2'
   have hrow:=HM.out.row
   have hrow':=HM'.out.row
   obtain ⟨ga,ca,e3⟩:=owns_some hrow (by omega)
   rw [←HLL.out] at hrow'
   obtain ⟨gb,cb,e3'⟩:=owns_some hrow' (by omega)
   simp only [Value.slice.injEq,true_and] at e3 e3'
   obtain ⟨rfl,rfl⟩:=e3
   obtain ⟨rfl,rfl⟩:=e3'
   have HCA:Hid (∀W,Nw wr W→W.cell? ⟨ga,i,none⟩=some (.slice mp ml'.length mc)):=by
    intro W kW
    exact owns_cell (owns_kp hrow (HN.out.trans kW) (fun _ _ h=>h)) i (by simp [hx])
   have HCB:Hid (∀W,Nw wr W→W.cell? ⟨gb,i,none⟩=some (.slice mp' ml'.length mc')):=by
    intro W kW
    exact owns_cell (owns_kp hrow' (HN.out.trans kW) (fun _ _ h=>h)) i (by simp [hx'])
   obtain ⟨hok1,hok2⟩:=HOK.out _ (List.mem_of_getElem? hx)
   simp only at hok1 hok2
   have HSM:Hid (∀W,Nw wr W→Calls Tryz.prog 17 #[.slice mp ml'.length mc,.slice mp' ml'.length mc'] W fun e w'=>e=.returned (.bool true)∧Nw W w'):=fun W kW =>
    sameM_same mp mp' mc mc' ml' W (mts_of0 (owns_kp hme (HN.out.trans kW) (fun _ _ h=>h))) (mts_of0 (owns_kp hme' (HN.out.trans kW) (fun _ _ h=>h))) (by omega) hok2
   clear hme hme' hrow hrow' hx hx' hok1 hok2 hN
   have hii:(i:Int)<hs.length:=by omega
   have hz:0≤(i:Int):=by omega
   go_wp2
   refine wp_region_held_drew (S:=fun W=>Nw wr W) (by kernel_rfl) ((Kp.refl _ _).drew) (fun hHeld => ?_)
   refine tL (i:=0) (v := ?_) rfl (Or.inl ⟨by rfl,fun W hSW => ?y0⟩) hHeld ?_
   case y0=>(try dsimp only at hSW);go_simp;rw []
   simp only [Act.put,sA,sZ,sS]
   refine tL (i:=1) (v := ?_) rfl (Or.inl ⟨by rfl,fun W hSW => ?y1⟩) hHeld ?_
   case y1=>(try dsimp only at hSW);go_simp;rw []
   simp only [Act.put,sA,sZ,sS]
   refine tL (i:=2) (v := ?_) rfl (Or.inl ⟨by rfl,fun W hSW => ?y2⟩) hHeld ?_
   case y2=>(try dsimp only at hSW);go_simp;rw []
   simp only [Act.put,sA,sZ,sS]
   refine tL (i:=3) (v := ?_) rfl (Or.inl ⟨by rfl,fun W hSW => ?y3⟩) hHeld ?_
   case y3=>(try dsimp only at hSW);have hq:=HCA.out W hSW;go_simp;rw []
   simp only [Act.put,sA,sZ,sS]
   refine tL (i:=4) (v := ?_) rfl (Or.inl ⟨by rfl,fun W hSW => ?y4⟩) hHeld ?_
   case y4=>(try dsimp only at hSW);go_simp;rw []
   simp only [Act.put,sA,sZ,sS]
   refine tL (i:=5) (v := ?_) rfl (Or.inl ⟨by rfl,fun W hSW => ?y5⟩) hHeld ?_
   case y5=>(try dsimp only at hSW);go_simp;rw []
   simp only [Act.put,sA,sZ,sS]
   refine tL (i:=6) (v := ?_) rfl (Or.inl ⟨by rfl,fun W hSW => ?y6⟩) hHeld ?_
   case y6=>(try dsimp only at hSW);go_simp;rw []
   simp only [Act.put,sA,sZ,sS]
   refine tL (i:=7) (v := ?_) rfl (Or.inl ⟨by rfl,fun W hSW => ?y7⟩) hHeld ?_
   case y7=>(try dsimp only at hSW);have hq:=HCB.out W hSW;go_simp;rw []
   simp only [Act.put,sA,sZ,sS]
   refine wpAnyH_ready (rs:=[8]) (by kernel_rfl) (by simp) ?_
   refine consL rfl (fun K hK => ?_) AllReadyH.nil
   go_simp
   refine (HSM.out _ ((Kp.refl _ _).drew)).mono ?_
   rintro e2 w2 ⟨rfl,k2⟩
   have k8:Nw wr w2:=((Kp.refl _ _).drew).trans k2
   try dsimp only
   refine hK.out _ _ k8 (fun _ => ?_)
   clear hK K
   try simp only [Act.put,sA,sZ,sS]
   refine tL (i:=9) (v := ?_) rfl (Or.inl ⟨by rfl,fun W hSW => ?y9⟩) k8 ?_
   case y9=>(try dsimp only at hSW);go_simp;rw []
   simp only [Act.put,sA,sZ,sS]
   refine wpAnyH_done (by kernel_rfl) ?_ _
   have K8:Hid (Nw w w2):=HN.out.trans k8
   clear k8 k2 HSM HCA HCB
   go_wp2
   go_roundg (hs.length - (i+1))
   case measure=>rw [HMM.out];omega
   case rel=>exact ⟨i+1,by simp,rfl,by omega,K8.out⟩
  ·have hii:¬(i:Int)<hs.length:=by omega
   go_wp2
   go_ret
   exact ⟨rfl,HN.out⟩
theorem dot_run {sc:List Int}:∀(L:List Evt) (n:Nat) (last:Int),GoesE sc last L→(∀i e,L[i]? = some e→(feedS sc ncode10 [1] 200 200 (runS sc ncode10 [1] 200 200 ⟨[],n,last,false⟩ (L.take i)) e).2.2=0)∧(∀i,i<L.length→(outS sc ncode10 [1] 200 200 ⟨[],n,last,false⟩ L)[i]? = some [⟨(n+i:Nat),(n+i:Nat),-1,-1,-1,-1⟩]):=by
 intro L
 induction L with
 | nil=>intro n last _;exact ⟨fun i e h=>by simp at h,fun i h=>by simp at h⟩
 | cons x L ih =>
  intro n last h
  obtain ⟨_,hg,ht,hr⟩:=h
  have hf:=dot_feed (sc:=sc) (n:=n) hg ht
  obtain ⟨i1,i2⟩:=ih (n+1) x.at' hr
  refine ⟨?_,?_⟩
  ·intro i e hi
   match i,hi with
   | 0,hi =>
    simp only [List.getElem?_cons_zero,Option.some.injEq] at hi
    subst hi
    show (feedS sc ncode10 [1] 200 200 ⟨[],n,last,false⟩ x).2.2=0
    rw [hf]
   | i+1,hi =>
    rw [List.take_succ_cons,runS_cons,hf]
    exact i1 i e (by simpa using hi)
  ·intro i hi
   unfold outS
   rw [hf]
   match i,hi with
   | 0,_=>rfl
   | i+1,hi =>
    rw [List.getElem?_cons_succ,i2 i (by simpa using hi),show n+1+i=n+(i+1) by omega]
theorem dot_pat {L:List Evt} (h:GoesE (bI ⟨#[49,49,49]⟩) 0 L):PatK ⟨#[46]⟩ ncode10 L:=by
 refine ⟨nprog10,by decide,?_⟩
 rw [dot_begins]
 exact (dot_run L 0 0 h).1
theorem awake_any (p:Option Addr) (ec:Nat) (L:List Evt) (w:World) (he:EvsP w p L) (hge:∀g,p=some ⟨g,0,none⟩→g<w.heap.size) (hL:L.length≤1000) (hev:∀e∈L,EvOk e) (hgo:GoesE (bI ⟨#[49,49,49]⟩) 0 L) :
  Calls Tryz.prog 12 #[.slice p L.length ec] w fun e w'=>e=.returned (.bool true)∧Nw w w':=by
 have HFO:Hid (Calls Tryz.prog 11 #[.string ⟨#[46]⟩,.slice p L.length ec] w fun e w'=>∃v hs,e=.returned (.tuple #[v,.bool true])∧Mds w' w.heap.size v hs∧hs.map (·.2)=outS (bI ⟨#[49,49,49]⟩) ncode10 (beginsS ncode10) 200 200 ⟨[],0,0,false⟩ L∧Nw w w'):=found_any _ _ p ec L w (dot_pat hgo) he hge hL hev
 have HDO:Hid (∀i,i<L.length→(outS (bI ⟨#[49,49,49]⟩) ncode10 (beginsS ncode10) 200 200 ⟨[],0,0,false⟩ L)[i]? = some [⟨(i:Nat),(i:Nat),-1,-1,-1,-1⟩]):=by
  intro i hi
  rw [dot_begins,(dot_run L 0 0 hgo).2 i hi,Nat.zero_add]
 have HLO:Hid ((outS (bI ⟨#[49,49,49]⟩) ncode10 (beginsS ncode10) 200 200 ⟨[],0,0,false⟩ L).length=L.length):=outS_len _ _ _ _ _ _ _
 clear he hge hev hgo
 generalize outS (bI ⟨#[49,49,49]⟩) ncode10 (beginsS ncode10) 200 200 ⟨[],0,0,false⟩ L=O at HFO HDO HLO
 obtain ⟨dd,hu,hd⟩:=Option.map_eq_some_iff.1 Tryz.rowMt'
 go_enter Tryz.func12,Tryz.ntmps12
 go_wp2_with fail
 refine HFO.out.mono ?_
 rintro e1 w1 ⟨v,hs,rfl,hm,ho,k1⟩
 obtain ⟨vp,vc,rfl⟩:=ownsLenX hm.row
 have hlen:hs.length=L.length:=by rw [←HLO.out,←ho];simp
 have HM:Hid (Mds w1 w.heap.size (.slice vp L.length vc) hs):=by rw [hlen] at hm;exact hm
 have HO:Hid (hs.map (·.2)=O):=ho
 have HLN:Hid (hs.length=L.length):=hlen
 have K1:Hid (Nw w w1):=k1
 rw [hlen]
 clear hm ho k1 HFO hlen
 go_wp2
 go_loopg [5] L.length (fun m v5 wr=>∃i:Nat,v5=.int .i64 i∧m=L.length - i∧i≤L.length∧Nw w1 wr)
 case atStart=>exact ⟨0,rfl,rfl,by omega,Kp.refl _ _⟩
 case round =>
  obtain ⟨i,rfl,hmm,hil,hN⟩:=hrel
  have HMM:Hid (_=L.length - i):=hmm
  have HN:Hid (Nw w1 wr):=hN
  clear hmm
  by_cases hi:i<L.length
  ·obtain ⟨x,hx⟩:∃x,hs[i]? = some x:=⟨hs[i]'(by rw [HLN.out];exact hi),by simp [HLN.out,hi]⟩
   obtain ⟨mv,ml⟩:=x
   have hml:ml=[⟨i,i,-1,-1,-1,-1⟩]:=by
    have h1:(hs.map (·.2))[i]? = some ml:=by simp [hx]
    rw [HO.out,HDO.out i hi] at h1
    simpa using h1.symm
   subst hml
   have hme:=HM.out.each _ (List.mem_of_getElem? hx)
   obtain ⟨gm,cm,e2⟩:=owns_some hme (by simp)
   simp only at e2
   subst e2
   have HCA:Hid (∀W,Nw wr W→∀ga,vp=some ⟨ga,0,none⟩→W.cell? ⟨ga,i,none⟩=some (.slice (some ⟨gm,0,none⟩) 1 cm)):=by
    intro W kW ga ega
    subst ega
    have hr:=owns_kp HM.out.row (HN.out.trans kW) (fun _ _ h=>h)
    rw [HLN.out] at hr
    exact owns_cell hr i (by simp [hx])
   have HRA:Hid (∀W,Nw wr W→W.rangeAt gm 0 (mtC ⟨i,i,-1,-1,-1,-1⟩)):=by
    intro W kW j v hv
    rw [Nat.zero_add]
    exact owns_cell (owns_kp hme (HN.out.trans kW) (fun _ _ h=>h)) j hv
   have hmo:MtOk ⟨i,i,-1,-1,-1,-1⟩:=by constructor <;> (unfold In64;constructor <;> (simp only [];omega))
   have HMO:Hid (MtOk ⟨i,i,-1,-1,-1,-1⟩):=hmo
   have hrow:=HM.out.row
   rw [HLN.out] at hrow
   obtain ⟨ga,ca,e3⟩:=owns_some hrow (by omega)
   simp only [Value.slice.injEq,true_and] at e3
   obtain ⟨rfl,rfl⟩:=e3
   have HCA2:Hid (∀W,Nw wr W→W.cell? ⟨ga,i,none⟩=some (.slice (some ⟨gm,0,none⟩) 1 cm)):=fun W kW=>HCA.out W kW ga rfl
   clear HCA
   have HCA:=HCA2
   clear HCA2 hme hrow hx hmo hN
   have hii:(i:Int)<L.length:=by omega
   have hz:0≤(i:Int):=by omega
   go_wp2
   refine wp_region_held_drew (S:=fun W=>Nw wr W) (by kernel_rfl) ((Kp.refl _ _).drew) (fun hHeld => ?_)
   refine tL (i:=0) (v := ?_) rfl (Or.inl ⟨by rfl,fun W hSW => ?y0⟩) hHeld ?_
   case y0=>(try dsimp only at hSW);go_simp;rw []
   simp only [Act.put,sA,sZ,sS]
   refine tL (i:=1) (v := ?_) rfl (Or.inl ⟨by rfl,fun W hSW => ?y1⟩) hHeld ?_
   case y1=>(try dsimp only at hSW);go_simp;rw []
   simp only [Act.put,sA,sZ,sS]
   refine tL (i:=2) (v := ?_) rfl (Or.inl ⟨by rfl,fun W hSW => ?y2⟩) hHeld ?_
   case y2=>(try dsimp only at hSW);go_simp;rw []
   simp only [Act.put,sA,sZ,sS]
   refine tL (i:=3) (v := ?_) rfl (Or.inl ⟨by rfl,fun W hSW => ?y3⟩) hHeld ?_
   case y3=>(try dsimp only at hSW);have hq:=HCA.out W hSW;go_simp;rw []
   simp only [Act.put,sA,sZ,sS]
   refine tL (i:=4) (v := ?_) rfl (Or.inl ⟨by rfl,fun W hSW => ?y4⟩) hHeld ?_
   case y4=>(try dsimp only at hSW);go_simp;rw []
   simp only [Act.put,sA,sZ,sS]
   refine tL (i:=5) (v := ?_) rfl (Or.inl ⟨by rfl,fun W hSW => ?y5⟩) hHeld ?_
   case y5=>(try dsimp only at hSW);go_simp;rw []
   simp only [Act.put,sA,sZ,sS]
   refine tL (i:=6) (v := ?_) rfl (Or.inl ⟨by rfl,fun W hSW => ?y6⟩) hHeld ?_
   case y6=>(try dsimp only at hSW);go_simp;rw []
   simp only [Act.put,sA,sZ,sS]
   refine tL (i:=7) (v := ?_) rfl (Or.inl ⟨by rfl,fun W hSW => ?y7⟩) hHeld ?_
   case y7=>(try dsimp only at hSW);go_simp;rw []
   simp only [Act.put,sA,sZ,sS]
   refine tL (i:=8) (v := ?_) rfl (Or.inl ⟨by rfl,fun W hSW => ?y8⟩) hHeld ?_
   case y8=>(try dsimp only at hSW);go_simp;rw []
   simp only [Act.put,sA,sZ,sS]
   refine tL (i:=9) (v := ?_) rfl (Or.inl ⟨by rfl,fun W hSW => ?y9⟩) hHeld ?_
   case y9=>(try dsimp only at hSW);go_simp;rw []
   simp only [Act.put,sA,sZ,sS]
   refine tL (i:=10) (v := ?_) rfl (Or.inl ⟨by rfl,fun W hSW => ?y10⟩) hHeld ?_
   case y10=>(try dsimp only at hSW);have hq:=HCA.out W hSW;go_simp;rw []
   simp only [Act.put,sA,sZ,sS]
   refine tL (i:=11) (v := ?_) rfl (Or.inl ⟨by rfl,fun W hSW => ?y11⟩) hHeld ?_
   case y11=>(try dsimp only at hSW);go_simp;rw []
   simp only [Act.put,sA,sZ,sS]
   refine tL (i:=12) (v:=_) rfl (yieldsIf_load_mid (by rfl) 36 _ rfl gm (0) rfl (mtC ⟨i,i,-1,-1,-1,-1⟩) dd HRA.out hu hd (size_mt _)) hHeld ?_
   simp only [Act.put,sA,sZ,sS]
   refine tL (i:=13) (v := ?_) rfl (Or.inl ⟨by rfl,fun W hSW => ?y13⟩) hHeld ?_
   case y13=>(try dsimp only at hSW);go_simp;rw []
   simp only [Act.put,sA,sZ,sS]
   refine tL (i:=14) (v := ?_) rfl (Or.inl ⟨by rfl,fun W hSW => ?y14⟩) hHeld ?_
   case y14=>(try dsimp only at hSW);go_simp;rw []
   simp only [Act.put,sA,sZ,sS]
   refine wpAnyH_ready (rs:=[15]) (by kernel_rfl) (by simp) ?_
   refine consL rfl (fun K hK => ?_) AllReadyH.nil
   go_simp
   refine (none_any _).mono ?_
   rintro e5 w5 ⟨rfl,k5⟩
   have k8:Nw wr w5:=((Kp.refl _ _).drew).trans k5
   try dsimp only
   refine hK.out _ _ k8 (fun _ => ?_)
   clear hK K
   try simp only [Act.put,sA,sZ,sS]
   refine tL (i:=16) (v := ?_) rfl (Or.inl ⟨by rfl,fun W hSW => ?y16⟩) k8 ?_
   case y16=>(try dsimp only at hSW);go_simp;rw []
   simp only [Act.put,sA,sZ,sS]
   refine tL (i:=17) (v:=.bool false) rfl (Or.inl ⟨by rfl,fun W hSW=>exec_neqS (u:=⟨i,i,-1,-1,-1,-1⟩) rfl rfl rfl HMO.out W⟩) k8 ?_
   simp only [Act.put,sA,sZ,sS]
   refine tL (i:=18) (v := ?_) rfl (Or.inl ⟨by rfl,fun W hSW => ?y18⟩) k8 ?_
   case y18=>(try dsimp only at hSW);go_simp;rw []
   simp only [Act.put,sA,sZ,sS]
   refine wpAnyH_done (by kernel_rfl) ?_ _
   have K5:Hid (Nw w1 w5):=HN.out.trans k8
   clear k5 k8 HCA HRA
   go_wp2
   go_roundg (L.length - (i+1))
   case measure=>rw [HMM.out];omega
   case rel=>exact ⟨i+1,by simp,rfl,by omega,K5.out⟩
  ·have hii:¬(i:Int)<L.length:=by omega
   go_wp2
   go_ret
   exact ⟨by simp,K1.out.trans HN.out⟩
end Go.Proofs.YtcboiapggnmpfabGreat
