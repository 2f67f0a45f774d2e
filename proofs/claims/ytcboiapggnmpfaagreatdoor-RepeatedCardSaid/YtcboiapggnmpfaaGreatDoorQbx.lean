import Derived.Test.YtcboiapggnmpfaaGreatDoorQbw
namespace Go.Proofs.YtcboiapggnmpfaaGreatDoor
set_option maxRecDepth 100000
set_option maxHeartbeats 4000000
set_option linter.unusedSimpArgs false
set_option linter.unusedVariables false
open Go.RowKit
def tmsS (p:ByteArray):Nat→ByteArray
 | 0=>⟨#[]⟩
 | n+1=>tmsS p n++⟨#[40]⟩++p++⟨#[41]⟩
def orS (p:ByteArray) (n:Nat):Nat→ByteArray
 | 0=>tmsS p n
 | j+1=>orS p n j++⟨#[124]⟩++tmsS p (n+1+j)
def digS (n:Nat):ByteArray:=⟨#[48+UInt8.ofNat n]⟩
def repS (p:ByteArray) (n h:Nat):ByteArray:=⟨#[40]⟩++p++⟨#[41]⟩++(⟨#[123]⟩++digS n++digS h++⟨#[125]⟩)
noncomputable def repB (p:ByteArray) (n h:Nat):Bool :=
 match progB ⟨#[49,49,49]⟩ (repS p n h),progB ⟨#[49,49,49]⟩ (orS p (max n 1) (h - max n 1)) with
 | some c0,some c1=>oneB (testsOf c0) 12 c0&&oneB (testsOf c0) 12 c1&&chkD eqsB (letters [c0,c1] (testsOf c0)) 12 [([c0,c1].map beginsS).map maskOf]
 | _,_=>false
def RepT (p:ByteArray) (n h:Nat):Prop:=∃c0 c1:List In,∀L:List Evt,GoesE (bI ⟨#[49,49,49]⟩) 0 L→L.length≤12→PatK (repS p n h) c0 L∧PatK (orS p (max n 1) (h - max n 1)) c1 L∧outS (bI ⟨#[49,49,49]⟩) c1 (beginsS c1) 200 200 ⟨[],0,0,false⟩ L=outS (bI ⟨#[49,49,49]⟩) c0 (beginsS c0) 200 200 ⟨[],0,0,false⟩ L∧∀l∈outS (bI ⟨#[49,49,49]⟩) c0 (beginsS c0) 200 200 ⟨[],0,0,false⟩ L,l.length≤1000∧∀m∈l,MtOk m
theorem progB_size3 {sc s:ByteArray} {c:List In} (h:progB sc s=some c):s.size≤1000:=by
 unfold progB at h
 split at h
 ·rename_i h1;omega
 ·cases h
theorem rep_of {p:ByteArray} {n h:Nat} (hr:repB p n h=true):RepT p n h:=by
 unfold repB at hr
 split at hr
 ·rename_i c0 c1 p0 p1
  simp only [Bool.and_eq_true] at hr
  obtain ⟨⟨h0,h1⟩,hc⟩:=hr
  have k0:=oneB_is h0
  have k1:=oneB_is h1
  have hK:∀c∈[c0,c1],OneK (testsOf c0) 12 c:=by
   intro c hm
   rcases List.mem_cons.1 hm with e|hm
   ·rw [e];exact k0
   rcases List.mem_cons.1 hm with e|hm
   ·rw [e];exact k1
   ·simp at hm
  exact ⟨c0,c1,fun L hg hL=>⟨k0.pat p0 (progB_size3 p0) hg hL (by omega),k1.pat p1 (progB_size3 p1) hg hL (by omega),alike_out (codes:=[c0,c1]) hK hc (by omega) hg hL (n:=1) rfl rfl,out_facts k0 hg hL (by omega)⟩⟩
 ·cases hr
noncomputable def repAllB (p:ByteArray):Bool:=[(0,1),(1,1),(0,2),(1,2),(2,2),(0,3),(1,3),(2,3),(3,3)].all fun q=>repB p q.1 q.2
theorem repAll_at {p:ByteArray} (h:repAllB p=true) {n m:Nat} (h1:1≤m) (h3:m≤3) (hn:n≤m):RepT p n m:=by
 unfold repAllB at h
 simp only [List.all_cons,List.all_nil,Bool.and_true,Bool.and_eq_true] at h
 obtain ⟨a1,a2,a3,a4,a5,a6,a7,a8,a9⟩:=h
 have e:(n=0∧m=1)∨(n=1∧m=1)∨(n=0∧m=2)∨(n=1∧m=2)∨(n=2∧m=2)∨(n=0∧m=3)∨(n=1∧m=3)∨(n=2∧m=3)∨(n=3∧m=3):=by omega
 rcases e with ⟨rfl,rfl⟩ | ⟨rfl,rfl⟩ | ⟨rfl,rfl⟩ | ⟨rfl,rfl⟩ | ⟨rfl,rfl⟩ | ⟨rfl,rfl⟩ | ⟨rfl,rfl⟩ | ⟨rfl,rfl⟩ | ⟨rfl,rfl⟩
 ·exact rep_of a1
 ·exact rep_of a2
 ·exact rep_of a3
 ·exact rep_of a4
 ·exact rep_of a5
 ·exact rep_of a6
 ·exact rep_of a7
 ·exact rep_of a8
 ·exact rep_of a9
def smallR:List Value:=[.string ⟨#[97]⟩,.string ⟨#[98]⟩,.string ⟨#[46]⟩,.string ⟨#[97,98]⟩,.string ⟨#[97,124,99]⟩,.string ⟨#[40,97,98,41]⟩,.string ⟨#[97,91,120,60,53,93]⟩,.string ⟨#[97,63,98]⟩,.string ⟨#[97,42,98]⟩,.string ⟨#[98,97,43]⟩,.string ⟨#[46,98]⟩,.string ⟨#[97,91,120,61,51,93,99]⟩,.string ⟨#[40,97,124,98,41]⟩,.string ⟨#[99,91,116,35,52,93]⟩,.string ⟨#[97,91,120,62,50,38,120,60,55,93]⟩,.string ⟨#[98,123,48,50,125]⟩,.string ⟨#[40,97,63,99,63,41]⟩]
theorem repd0:repAllB ⟨#[97]⟩=true:=by kernel_rfl
theorem repd1:repAllB ⟨#[98]⟩=true:=by kernel_rfl
theorem repd2:repAllB ⟨#[46]⟩=true:=by kernel_rfl
theorem repd3:repAllB ⟨#[97,98]⟩=true:=by kernel_rfl
theorem repd4:repAllB ⟨#[97,124,99]⟩=true:=by kernel_rfl
theorem repd5:repAllB ⟨#[40,97,98,41]⟩=true:=by kernel_rfl
theorem repd6:repAllB ⟨#[97,91,120,60,53,93]⟩=true:=by kernel_rfl
theorem repd7:repAllB ⟨#[97,63,98]⟩=true:=by kernel_rfl
theorem repd8:repAllB ⟨#[97,42,98]⟩=true:=by kernel_rfl
theorem repd9:repAllB ⟨#[98,97,43]⟩=true:=by kernel_rfl
theorem repd10:repAllB ⟨#[46,98]⟩=true:=by kernel_rfl
theorem repd11:repAllB ⟨#[97,91,120,61,51,93,99]⟩=true:=by kernel_rfl
theorem repd12:repAllB ⟨#[40,97,124,98,41]⟩=true:=by kernel_rfl
theorem repd13:repAllB ⟨#[99,91,116,35,52,93]⟩=true:=by kernel_rfl
theorem repd14:repAllB ⟨#[97,91,120,62,50,38,120,60,55,93]⟩=true:=by kernel_rfl
theorem repd15:repAllB ⟨#[98,123,48,50,125]⟩=true:=by kernel_rfl
theorem repd16:repAllB ⟨#[40,97,63,99,63,41]⟩=true:=by kernel_rfl
theorem smallR_at:∀k,k<17→∃s:ByteArray,smallR[k]? = some (.string s)∧s.size≤100∧repAllB s=true:=by
 intro k hk
 rcases (show k=0∨k=1∨k=2∨k=3∨k=4∨k=5∨k=6∨k=7∨k=8∨k=9∨k=10∨k=11∨k=12∨k=13∨k=14∨k=15∨k=16 by omega) with rfl|rfl|rfl|rfl|rfl|rfl|rfl|rfl|rfl|rfl|rfl|rfl|rfl|rfl|rfl|rfl|rfl
 ·exact ⟨_,rfl,by decide,repd0⟩
 ·exact ⟨_,rfl,by decide,repd1⟩
 ·exact ⟨_,rfl,by decide,repd2⟩
 ·exact ⟨_,rfl,by decide,repd3⟩
 ·exact ⟨_,rfl,by decide,repd4⟩
 ·exact ⟨_,rfl,by decide,repd5⟩
 ·exact ⟨_,rfl,by decide,repd6⟩
 ·exact ⟨_,rfl,by decide,repd7⟩
 ·exact ⟨_,rfl,by decide,repd8⟩
 ·exact ⟨_,rfl,by decide,repd9⟩
 ·exact ⟨_,rfl,by decide,repd10⟩
 ·exact ⟨_,rfl,by decide,repd11⟩
 ·exact ⟨_,rfl,by decide,repd12⟩
 ·exact ⟨_,rfl,by decide,repd13⟩
 ·exact ⟨_,rfl,by decide,repd14⟩
 ·exact ⟨_,rfl,by decide,repd15⟩
 ·exact ⟨_,rfl,by decide,repd16⟩
theorem mtsC_get0 (l:List Mt):∀(i j:Nat) (x:Mt),l[i]? = some x→j<6→(mtsC l)[i*6+j]? = (mtC x)[j]?:=by
 induction l with
 | nil=>intro i j x h;simp at h
 | cons y r ih =>
  intro i j x h hj
  have e:mtsC (y::r)=mtC y++mtsC r:=by simp [mtsC]
  have hl:(mtC y).length=6:=rfl
  rw [e]
  cases i with
  | zero=>simp at h;subst h;rw [List.getElem?_append_left (by omega)];simp
  | succ i =>
   simp at h
   rw [List.getElem?_append_right (by omega),hl]
   have:(i+1)*6+j - 6=i*6+j:=by omega
   rw [this];exact ih i j x h hj
theorem mts_of0 {w:World} {base:Nat} {mp:Option Addr} {mc:Nat} {l:List Mt} (h:w.ownsRow base 35 6 (.slice mp l.length mc) l.length (mtsC l)):MtsP w mp l:=by
 intro hne
 obtain ⟨g,c',e⟩:=owns_some h (List.length_pos_iff.2 hne)
 simp only [Value.slice.injEq,true_and] at e
 obtain ⟨rfl,rfl⟩:=e
 refine ⟨g,rfl,(h.lt g rfl).2,?_⟩
 intro i x hx j v hv
 have hj:j<6:=by have:=(List.getElem?_eq_some_iff.1 hv).1;simpa [mtC] using this
 exact owns_cell h (i*6+j) (by rw [mtsC_get0 l i j x hx hj];exact hv)
theorem sameAll_same (p p':Option Addr) (cap cap' B B':Nat) (hs hs':List (Value×List Mt)) (w:World) (hm:Mds w B (.slice p hs.length cap) hs) (hm':Mds w B' (.slice p' hs.length cap') hs') (he:hs.map (·.2)=hs'.map (·.2)) (hL:hs.length≤1000) (hok:∀x∈hs,x.2.length≤1000∧∀m∈x.2,MtOk m) :
  Calls Tryz.prog 9 #[.slice p hs.length cap,.slice p' hs.length cap'] w fun e w'=>e=.returned (.bool true)∧Nw w w':=by
 have hll:hs.length=hs'.length:=by have:=congrArg List.length he;simpa using this
 have HM:Hid (Mds w B (.slice p hs.length cap) hs):=hm
 have HM':Hid (Mds w B' (.slice p' hs.length cap') hs'):=hm'
 have HE:Hid (hs.map (·.2)=hs'.map (·.2)):=he
 have HLL:Hid (hs.length=hs'.length):=hll
 have HOK:Hid (∀x∈hs,x.2.length≤1000∧∀m∈x.2,MtOk m):=hok
 clear hm hm' he hok hll
 go_enter Tryz.func9,Tryz.ntmps9
 go_wp2
 go_loopg [5] hs.length (fun m v5 wr=>∃i:Nat,v5=.int .i64 i∧m=hs.length - i∧i≤hs.length∧Nw w wr)
 case atStart=>exact ⟨0,rfl,rfl,by omega,Kp.refl _ _⟩
 case round =>
  obtain ⟨i,rfl,hmm,hil,hN⟩:=hrel
  have HMM:Hid (_=hs.length - i):=hmm
  have HN:Hid (Nw w wr):=hN
  clear hmm
  by_cases hi:i<hs.length
  ·obtain ⟨x,hx⟩:∃x,hs[i]? = some x:=⟨hs[i],by simp [hi]⟩
   obtain ⟨x',hx'⟩:∃x',hs'[i]? = some x':=⟨hs'[i]'(by rw [←HLL.out];exact hi),by simp [←HLL.out,hi]⟩
   obtain ⟨mv,ml⟩:=x
   obtain ⟨mv',ml'⟩:=x'
   have hml:ml'=ml:=by
    have h1:(hs.map (·.2))[i]? = some ml:=by simp [hx]
    rw [HE.out] at h1
    simp [hx'] at h1
    exact h1
   subst hml
   have hme:=HM.out.each _ (List.mem_of_getElem? hx)
   have hme':=HM'.out.each _ (List.mem_of_getElem? hx')
   simp only at hme hme'
   obtain ⟨mp,mc,e2⟩:=ownsLenX hme
   obtain ⟨mp',mc',e2'⟩:=ownsLenX hme'
   subst e2
   subst e2'
   have hrow:=HM.out.row
   have hrow':=HM'.out.row
   obtain ⟨ga,ca,e3⟩:=owns_some hrow (by omega)
   rw [←HLL.out] at hrow'
   obtain ⟨gb,cb,e3'⟩:=owns_some hrow' (by omega)
   simp only [Value.slice.injEq,true_and] at e3 e3'
   obtain ⟨rfl,rfl⟩:=e3
   obtain ⟨rfl,rfl⟩:=e3'
   have HCA:Hid (∀W,Nw wr W→W.cell? ⟨ga,i,none⟩=some (.slice mp ml'.length mc)):=by
    intro W kW
    exact owns_cell (owns_kp hrow (HN.out.trans kW) (fun _ _ h=>h)) i (by simp [hx])
   have HCB:Hid (∀W,Nw wr W→W.cell? ⟨gb,i,none⟩=some (.slice mp' ml'.length mc')):=by
    intro W kW
    exact owns_cell (owns_kp hrow' (HN.out.trans kW) (fun _ _ h=>h)) i (by simp [hx'])
   obtain ⟨hok1,hok2⟩:=HOK.out _ (List.mem_of_getElem? hx)
   simp only at hok1 hok2
   have HSM:Hid (∀W,Nw wr W→Calls Tryz.prog 17 #[.slice mp ml'.length mc,.slice mp' ml'.length mc'] W fun e w'=>e=.returned (.bool true)∧Nw W w'):=fun W kW =>
    sameM_same mp mp' mc mc' ml' W (mts_of0 (owns_kp hme (HN.out.trans kW) (fun _ _ h=>h))) (mts_of0 (owns_kp hme' (HN.out.trans kW) (fun _ _ h=>h))) (by omega) hok2
   clear hme hme' hrow hrow' hx hx' hok1 hok2 hN
   have hii:(i:Int)<hs.length:=by omega
   have hz:0≤(i:Int):=by omega
   go_wp2
   refine wp_region_held_drew (S:=fun W=>Nw wr W) (by kernel_rfl) ((Kp.refl _ _).drew) (fun hHeld => ?_)
   refine tM 0 rfl (fun W hSW=>by (try dsimp only at hSW);go_simp;rw []) hHeld ?_
   refine tM 1 rfl (fun W hSW=>by (try dsimp only at hSW);go_simp;rw []) hHeld ?_
   refine tM 2 rfl (fun W hSW=>by (try dsimp only at hSW);go_simp;rw []) hHeld ?_
   refine tM 3 rfl (fun W hSW=>by (try dsimp only at hSW);have hq:=HCA.out W hSW;go_simp;rw []) hHeld ?_
   refine tM 4 rfl (fun W hSW=>by (try dsimp only at hSW);go_simp;rw []) hHeld ?_
   refine tM 5 rfl (fun W hSW=>by (try dsimp only at hSW);go_simp;rw []) hHeld ?_
   refine tM 6 rfl (fun W hSW=>by (try dsimp only at hSW);go_simp;rw []) hHeld ?_
   refine tM 7 rfl (fun W hSW=>by (try dsimp only at hSW);have hq:=HCB.out W hSW;go_simp;rw []) hHeld ?_
   refine wpAnyH_ready (rs:=[8]) (by kernel_rfl) (by simp) ?_
   refine consL rfl (fun K hK => ?_) AllReadyH.nil
   go_simp
   refine (HSM.out _ ((Kp.refl _ _).drew)).mono ?_
   rintro e2 w2 ⟨rfl,k2⟩
   have k8:Nw wr w2:=((Kp.refl _ _).drew).trans k2
   try dsimp only
   refine hK.out _ _ k8 (fun _ => ?_)
   clear hK K
   try simp only [Act.put,sA,sZ,sS]
   refine tM 9 rfl (fun W hSW=>by (try dsimp only at hSW);go_simp;rw []) k8 ?_
   refine wpAnyH_done (by kernel_rfl) ?_ _
   have K8:Hid (Nw w w2):=HN.out.trans k8
   clear k8 k2 HSM HCA HCB
   go_wp2
   go_roundg (hs.length - (i+1))
   case measure=>rw [HMM.out];omega
   case rel=>exact ⟨i+1,by simp,rfl,by omega,K8.out⟩
  ·have hii:¬(i:Int)<hs.length:=by omega
   go_wp2
   go_ret
   exact ⟨rfl,HN.out⟩
theorem dot_run {sc:List Int}:∀(L:List Evt) (n:Nat) (last:Int),GoesE sc last L→(∀i e,L[i]? = some e→(feedS sc ncode10 [1] 200 200 (runS sc ncode10 [1] 200 200 ⟨[],n,last,false⟩ (L.take i)) e).2.2=0)∧(∀i,i<L.length→(outS sc ncode10 [1] 200 200 ⟨[],n,last,false⟩ L)[i]? = some [⟨(n+i:Nat),(n+i:Nat),-1,-1,-1,-1⟩]):=by
 intro L
 induction L with
 | nil=>intro n last _;exact ⟨fun i e h=>by simp at h,fun i h=>by simp at h⟩
 | cons x L ih =>
  intro n last h
  obtain ⟨_,hg,ht,hr⟩:=h
  have hf:=dot_feed (sc:=sc) (n:=n) hg ht
  obtain ⟨i1,i2⟩:=ih (n+1) x.at' hr
  refine ⟨?_,?_⟩
  ·intro i e hi
   match i,hi with
   | 0,hi =>
    simp only [List.getElem?_cons_zero,Option.some.injEq] at hi
    subst hi
    show (feedS sc ncode10 [1] 200 200 ⟨[],n,last,false⟩ x).2.2=0
    rw [hf]
   | i+1,hi =>
    rw [List.take_succ_cons,runS_cons,hf]
    exact i1 i e (by simpa using hi)
  ·intro i hi
   unfold outS
   rw [hf]
   match i,hi with
   | 0,_=>rfl
   | i+1,hi =>
    rw [List.getElem?_cons_succ,i2 i (by simpa using hi),show n+1+i=n+(i+1) by omega]
theorem dot_pat {L:List Evt} (h:GoesE (bI ⟨#[49,49,49]⟩) 0 L):PatK ⟨#[46]⟩ ncode10 L:=by
 refine ⟨nprog10,by decide,?_⟩
 rw [dot_begins]
 exact (dot_run L 0 0 h).1
theorem awake_any (p:Option Addr) (ec:Nat) (L:List Evt) (w:World) (he:EvsP w p L) (hge:∀g,p=some ⟨g,0,none⟩→g<w.heap.size) (hL:L.length≤1000) (hev:∀e∈L,EvOk e) (hgo:GoesE (bI ⟨#[49,49,49]⟩) 0 L) :
  Calls Tryz.prog 12 #[.slice p L.length ec] w fun e w'=>e=.returned (.bool true)∧Nw w w':=by
 have HFO:Hid (Calls Tryz.prog 8 #[.string ⟨#[46]⟩,.slice p L.length ec] w fun e w'=>∃v hs,e=.returned (.tuple #[v,.bool true])∧Mds w' w.heap.size v hs∧hs.map (·.2)=outS (bI ⟨#[49,49,49]⟩) ncode10 (beginsS ncode10) 200 200 ⟨[],0,0,false⟩ L∧Nw w w'):=found_any _ _ p ec L w (dot_pat hgo) he hge hL hev
 have HDO:Hid (∀i,i<L.length→(outS (bI ⟨#[49,49,49]⟩) ncode10 (beginsS ncode10) 200 200 ⟨[],0,0,false⟩ L)[i]? = some [⟨(i:Nat),(i:Nat),-1,-1,-1,-1⟩]):=by
  intro i hi
  rw [dot_begins,(dot_run L 0 0 hgo).2 i hi,Nat.zero_add]
 have HLO:Hid ((outS (bI ⟨#[49,49,49]⟩) ncode10 (beginsS ncode10) 200 200 ⟨[],0,0,false⟩ L).length=L.length):=outS_len _ _ _ _ _ _ _
 clear he hge hev hgo
 generalize outS (bI ⟨#[49,49,49]⟩) ncode10 (beginsS ncode10) 200 200 ⟨[],0,0,false⟩ L=O at HFO HDO HLO
 obtain ⟨dd,hu,hd⟩:=Option.map_eq_some_iff.1 Tryz.rowMt'
 go_enter Tryz.func12,Tryz.ntmps12
 go_wp2_with fail
 refine HFO.out.mono ?_
 rintro e1 w1 ⟨v,hs,rfl,hm,ho,k1⟩
 obtain ⟨vp,vc,rfl⟩:=ownsLenX hm.row
 have hlen:hs.length=L.length:=by rw [←HLO.out,←ho];simp
 have HM:Hid (Mds w1 w.heap.size (.slice vp L.length vc) hs):=by rw [hlen] at hm;exact hm
 have HO:Hid (hs.map (·.2)=O):=ho
 have HLN:Hid (hs.length=L.length):=hlen
 have K1:Hid (Nw w w1):=k1
 rw [hlen]
 clear hm ho k1 HFO hlen
 go_wp2
 go_loopg [5] L.length (fun m v5 wr=>∃i:Nat,v5=.int .i64 i∧m=L.length - i∧i≤L.length∧Nw w1 wr)
 case atStart=>exact ⟨0,rfl,rfl,by omega,Kp.refl _ _⟩
 case round =>
  obtain ⟨i,rfl,hmm,hil,hN⟩:=hrel
  have HMM:Hid (_=L.length - i):=hmm
  have HN:Hid (Nw w1 wr):=hN
  clear hmm
  by_cases hi:i<L.length
  ·obtain ⟨x,hx⟩:∃x,hs[i]? = some x:=⟨hs[i]'(by rw [HLN.out];exact hi),by simp [HLN.out,hi]⟩
   obtain ⟨mv,ml⟩:=x
   have hml:ml=[⟨i,i,-1,-1,-1,-1⟩]:=by
    have h1:(hs.map (·.2))[i]? = some ml:=by simp [hx]
    rw [HO.out,HDO.out i hi] at h1
    simpa using h1.symm
   subst hml
   have hme:=HM.out.each _ (List.mem_of_getElem? hx)
   obtain ⟨gm,cm,e2⟩:=owns_some hme (by simp)
   simp only at e2
   subst e2
   have HCA:Hid (∀W,Nw wr W→∀ga,vp=some ⟨ga,0,none⟩→W.cell? ⟨ga,i,none⟩=some (.slice (some ⟨gm,0,none⟩) 1 cm)):=by
    intro W kW ga ega
    subst ega
    have hr:=owns_kp HM.out.row (HN.out.trans kW) (fun _ _ h=>h)
    rw [HLN.out] at hr
    exact owns_cell hr i (by simp [hx])
   have HRA:Hid (∀W,Nw wr W→W.rangeAt gm 0 (mtC ⟨i,i,-1,-1,-1,-1⟩)):=by
    intro W kW j v hv
    rw [Nat.zero_add]
    exact owns_cell (owns_kp hme (HN.out.trans kW) (fun _ _ h=>h)) j hv
   have hmo:MtOk ⟨i,i,-1,-1,-1,-1⟩:=by constructor <;> (unfold In64;constructor <;> (simp only [];omega))
   have HMO:Hid (MtOk ⟨i,i,-1,-1,-1,-1⟩):=hmo
   have hrow:=HM.out.row
   rw [HLN.out] at hrow
   obtain ⟨ga,ca,e3⟩:=owns_some hrow (by omega)
   simp only [Value.slice.injEq,true_and] at e3
   obtain ⟨rfl,rfl⟩:=e3
   have HCA2:Hid (∀W,Nw wr W→W.cell? ⟨ga,i,none⟩=some (.slice (some ⟨gm,0,none⟩) 1 cm)):=fun W kW=>HCA.out W kW ga rfl
   clear HCA
   have HCA:=HCA2
   clear HCA2 hme hrow hx hmo hN
   have hii:(i:Int)<L.length:=by omega
   have hz:0≤(i:Int):=by omega
   go_wp2
   refine wp_region_held_drew (S:=fun W=>Nw wr W) (by kernel_rfl) ((Kp.refl _ _).drew) (fun hHeld => ?_)
   refine tM 0 rfl (fun W hSW=>by (try dsimp only at hSW);go_simp;rw []) hHeld ?_
   refine tM 1 rfl (fun W hSW=>by (try dsimp only at hSW);go_simp;rw []) hHeld ?_
   refine tM 2 rfl (fun W hSW=>by (try dsimp only at hSW);go_simp;rw []) hHeld ?_
   refine tM 3 rfl (fun W hSW=>by (try dsimp only at hSW);have hq:=HCA.out W hSW;go_simp;rw []) hHeld ?_
   refine tM 4 rfl (fun W hSW=>by (try dsimp only at hSW);go_simp;rw []) hHeld ?_
   refine tM 5 rfl (fun W hSW=>by (try dsimp only at hSW);go_simp;rw []) hHeld ?_
   refine tM 6 rfl (fun W hSW=>by (try dsimp only at hSW);go_simp;rw []) hHeld ?_
   refine tM 7 rfl (fun W hSW=>by (try dsimp only at hSW);go_simp;rw []) hHeld ?_
   refine tM 8 rfl (fun W hSW=>by (try dsimp only at hSW);go_simp;rw []) hHeld ?_
   refine tM 9 rfl (fun W hSW=>by (try dsimp only at hSW);go_simp;rw []) hHeld ?_
   refine tM 10 rfl (fun W hSW=>by (try dsimp only at hSW);have hq:=HCA.out W hSW;go_simp;rw []) hHeld ?_
   refine tM 11 rfl (fun W hSW=>by (try dsimp only at hSW);go_simp;rw []) hHeld ?_
   refine tN (i:=12) (v:=_) rfl (yieldsIf_load_mid (by rfl) 35 _ rfl gm (0) rfl (mtC ⟨i,i,-1,-1,-1,-1⟩) dd HRA.out hu hd (size_mt _)) hHeld ?_
   refine tM 13 rfl (fun W hSW=>by (try dsimp only at hSW);go_simp;rw []) hHeld ?_
   refine tM 14 rfl (fun W hSW=>by (try dsimp only at hSW);go_simp;rw []) hHeld ?_
   refine wpAnyH_ready (rs:=[15]) (by kernel_rfl) (by simp) ?_
   refine consL rfl (fun K hK => ?_) AllReadyH.nil
   go_simp
   refine (none_any _).mono ?_
   rintro e5 w5 ⟨rfl,k5⟩
   have k8:Nw wr w5:=((Kp.refl _ _).drew).trans k5
   try dsimp only
   refine hK.out _ _ k8 (fun _ => ?_)
   clear hK K
   try simp only [Act.put,sA,sZ,sS]
   refine tM 16 rfl (fun W hSW=>by (try dsimp only at hSW);go_simp;rw []) k8 ?_
   refine tN (i:=17) (v:=.bool false) rfl (Or.inl ⟨by rfl,fun W hSW=>exec_neqS (u:=⟨i,i,-1,-1,-1,-1⟩) rfl rfl rfl HMO.out W⟩) k8 ?_
   refine tM 18 rfl (fun W hSW=>by (try dsimp only at hSW);go_simp;rw []) k8 ?_
   refine wpAnyH_done (by kernel_rfl) ?_ _
   have K5:Hid (Nw w1 w5):=HN.out.trans k8
   clear k5 k8 HCA HRA
   go_wp2
   go_roundg (L.length - (i+1))
   case measure=>rw [HMM.out];omega
   case rel=>exact ⟨i+1,by simp,rfl,by omega,K5.out⟩
  ·have hii:¬(i:Int)<L.length:=by omega
   go_wp2
   go_ret
   exact ⟨by simp,K1.out.trans HN.out⟩
end Go.Proofs.YtcboiapggnmpfaaGreatDoor
