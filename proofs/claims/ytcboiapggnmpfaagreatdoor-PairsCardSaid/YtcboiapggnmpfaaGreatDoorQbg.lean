import Derived.Test.YtcboiapggnmpfaaGreatDoorQbf
namespace Go.Proofs.YtcboiapggnmpfaaGreatDoor
set_option maxRecDepth 100000
set_option maxHeartbeats 8000000
set_option linter.unusedSimpArgs false
set_option linter.unusedVariables false
open Go.RowKit
open Value (int)
open IntKind (i64)
theorem insC_len (x:In):(insC x).length=14:=rfl
theorem size_inA (x:In):(Tryz.prog.info? 120).map (·.size)=some (insC x).toArray.size:=Tryz.sizeIn
def in00:In:=⟨0,0,0,tst0⟩
theorem zerosIn:(insC in00).toArray=#[int i64 0,int i64 0,int i64 0,int i64 0,int i64 0,int i64 0,int i64 0,int i64 0,int i64 0,int i64 0,int i64 0,int i64 0,int i64 0,int i64 0]:=rfl
def TimeOk (x:Int):Prop:=0≤x∧x≤1000000000000000
structure InOk (x:In):Prop where
 l:TmOk x.test.left
 r:TmOk x.test.right
 m:TmOk x.test.more
theorem Tryz.rowTs:(Tryz.prog.underlying 118).map TypeDesc.isRow=some true:=by kernel_rfl
theorem Tryz.sizeTs:(Tryz.prog.info? 118).map (·.size)=some 11:=by kernel_rfl
theorem size_ts (x:Tst):(Tryz.prog.info? 118).map (·.size)=some (tstC x).length:=Tryz.sizeTs
theorem ins_test {w:World} {B:Nat} {x:In} (h:Bx w B (insC x)):w.rangeAt B 3 (tstC x.test):=by
 intro j v hv
 have:=h.r (3+j) v (by rw [Nat.add_comm 3 j];exact hv)
 rwa [Nat.zero_add] at this
theorem ins_op {l:List In} (hA:AllIns l) {i:Nat} {x:In} (hx:l[i]? = some x):0≤x.op∧x.op≤6:=by
 have:=(hA i x hx).1
 unfold insIsB at this
 simp only [Bool.and_eq_true,decide_eq_true_eq] at this
 exact ⟨this.1.1.1.1.1.1,this.1.1.1.1.1.2⟩
theorem threadS_ok {hand:Nmb} {t:Thr} (hh:In64 hand.n∧EvOk hand.e) (ht:ThrOk t) {a:Int} (ha:In64 a) (anew:Nat):ThrOk (threadS hand t a anew):=by
 refine ⟨ha,ht.f,ht.b,?_⟩
 intro i
 match i with
 | 0=>exact heldS_ok hh ht 0 anew
 | 1=>exact heldS_ok hh ht 1 anew
 | 2=>exact heldS_ok hh ht 2 anew
 | n+3=>exact heldS_ok hh ht 3 anew
theorem rchS_len (s:Tn) (z:Int) (an:Nat):(rchS s z an).opn.length≤s.opn.length+1:=by
 unfold rchS
 split <;> simp
theorem leaveT_any (R g cap:Nat) (l:List In) (hand:Nmb) (fr:Thr) (turn gb:Nat) (ov wv ev:Value) (s:Tn) (a anew:Nat) (x:In) (w:World) (h:StM w R g cap l hand fr turn gb ov wv ev s) (hx:l[a]? = some x) (hw:anew<16) (hn:l.length≤1000) (hq:s.opn.length≤90000) (hA:AllIns l) (hI:InOk x) (hok:In64 hand.n∧EvOk hand.e) (htk:ThrOk fr) (ht1:TimeOk hand.e.at') (ht2:TimeOk fr.began)
  (hwl:s.wait.l.length≤10000) (hel:s.ended.l.length≤10000) (hwk:∀u∈s.wait.l,ThrOk u) (hek:∀u∈s.ended.l,ThrOk u) :
  Calls Tryz.prog 105 #[.pointer (some ⟨R,0,none⟩),.agg #[.int .i64 (a:Int),.int .i64 (anew:Int)]] w (LvPost w R g cap l hand fr turn gb (lvS hand fr s a anew x)):=by
 obtain ⟨dd,hu,hd⟩:=Option.map_eq_some_iff.1 Tryz.rowIn
 have HU:Hid (Tryz.prog.underlying 120=some dd):=hu
 have HD:Hid (dd.isRow=true):=hd
 have H:Hid (StM w R g cap l hand fr turn gb ov wv ev s):=h
 have hal:a<l.length:=(List.getElem?_eq_some_iff.1 hx).1
 have hRl:=h.lt
 have hgl:g<w.heap.size:=by have:=h.hg;omega
 have HX:Hid (l[a]? = some x):=hx
 have HRG:Hid (∀W,Nw w W→W.rangeAt g (a*14) (insC x)):=by
  intro W kW j v hv
  exact ((h.row.kp kW (fun h=>h)).ins a x hx) j v hv
 have s1:∀W,Nw (w.alloc (.cells #[.int .i64 (a:Int),.int .i64 (anew:Int)] 205)) W→W.cell? ⟨R,0,none⟩=some (.slice (some ⟨g,0,none⟩) l.length cap):=fun W kW=>(h.nw (((Kp.refl _ w).alloc _).trans kW)).cod
 have HB3:Hid (∀W,Nw (w.alloc (.cells #[.int .i64 (a:Int),.int .i64 (anew:Int)] 205)) W→Bx W w.heap.size [.int .i64 (a:Int),.int .i64 (anew:Int)]):=fun W kW=>(Bx.new w [.int .i64 (a:Int),.int .i64 (anew:Int)] 205).kp (by simp) kW (fun h=>h)
 have s2:∀W,Nw (w.alloc (.cells #[.int .i64 (a:Int),.int .i64 (anew:Int)] 205)) W→W.cell? ⟨w.heap.size,0,none⟩=some (.int .i64 (a:Int)):=fun W kW=>(HB3.out W kW).cell (k:=0) rfl
 have HK0:Hid (Nw w (w.alloc (.cells #[.int .i64 (a:Int),.int .i64 (anew:Int)] 205))):=(Kp.refl _ w).alloc _
 have HS0:Hid ((w.alloc (.cells #[.int .i64 (a:Int),.int .i64 (anew:Int)] 205)).heap.size=w.heap.size+1):=by show _=_;simp
 have hRl0:R<(w.alloc (.cells #[.int .i64 (a:Int),.int .i64 (anew:Int)] 205)).heap.size:=by rw [HS0.out];omega
 clear hu hd h hx
 go_enter Tryz.func105,Tryz.ntmps105
 go_wp2
 generalize (w.alloc (.cells #[.int .i64 (a:Int),.int .i64 (anew:Int)] 205))=w0 at *
 refine wp_region_held_drew (S:=fun W=>Nw w0 W) (by kernel_rfl) ((Kp.refl _ _).drew) (fun hHeld => ?_)
 refine tM 0 rfl (fun W hSW=>by (try dsimp only at hSW);go_simp;rw []) hHeld ?_
 refine tM 1 rfl (fun W hSW=>by (try dsimp only at hSW);go_simp;rw []) hHeld ?_
 refine tM 2 rfl (fun W hSW=>by (try dsimp only at hSW);go_simp;rw []) hHeld ?_
 refine tM 3 rfl (fun W hSW=>by (try dsimp only at hSW);go_simp;rw []) hHeld ?_
 refine tM 4 rfl (fun W hSW=>by (try dsimp only at hSW);go_simp;rw []) hHeld ?_
 refine tM 5 rfl (fun W hSW=>by (try dsimp only at hSW);go_simp;rw []) hHeld ?_
 refine tM 6 rfl (fun W hSW=>by (try dsimp only at hSW);go_simp;rw []) hHeld ?_
 refine tN (i:=7) (v:=_) rfl (yieldsIf_load_mid (by rfl) 120 _ rfl g (a*14) rfl (insC x) dd (fun W kW=>HRG.out W (HK0.out.trans kW)) HU.out HD.out (size_in x)) hHeld ?_
 refine wpAnyH_ready (rs:=[8]) (by kernel_rfl) (by simp) ?_
 refine consL rfl (fun K hK => ?_) AllReadyH.nil
 go_simp
 refine hK.out _ _ (((Kp.refl _ _).alloc _).drew) (fun hH2 => ?_)
 clear hK K
 try simp only [Act.put,sA,sZ,sS]
 refine wpAnyH_ready (rs:=[9]) (by kernel_rfl) (by simp) ?_
 refine consL rfl (fun K hK => ?_) AllReadyH.nil
 rw [if_pos (by rfl)]
 refine wp_store_mid 120 _ _ rfl w0.heap.size 0 (insC x).toArray rfl rfl ?_ (size_inA x) (all_oneCell_toArray (oneCellsI x)) ?_
 ·have hnew:=Bx.new w0 (insC in00) 120
  rw [zerosIn] at hnew
  exact (hnew.kp (by simp [insC]) ((Kp.refl (fun _=>False) _).drew) (fun h=>h)).there rfl
 refine hK.out _ _ ((((Kp.refl _ _).alloc _).drew).trans' (kp_setCells _ 0 _) (by intro b hb e;omega)) (fun _ => ?_)
 clear hK K hH2
 try simp only [Act.put,sA,sZ,sS]
 refine wpAnyH_done (by kernel_rfl) ?_ _
 have KW2:Hid (Nw w0 ((w0.alloc (.cells #[int i64 0,int i64 0,int i64 0,int i64 0,int i64 0,int i64 0,int i64 0,int i64 0,int i64 0,int i64 0,int i64 0,int i64 0,int i64 0,int i64 0] 120)).drew.setCells w0.heap.size 0 (insC x))):=(((Kp.refl _ _).alloc _).drew).trans' (kp_setCells _ 0 _) (by intro b hb e;omega)
 have HB4:Hid (∀W,Nw ((w0.alloc (.cells #[int i64 0,int i64 0,int i64 0,int i64 0,int i64 0,int i64 0,int i64 0,int i64 0,int i64 0,int i64 0,int i64 0,int i64 0,int i64 0,int i64 0] 120)).drew.setCells w0.heap.size 0 (insC x)) W→Bx W w0.heap.size (insC x)):=by
  intro W kW
  have hnew:=Bx.new w0 (insC in00) 120
  rw [zerosIn] at hnew
  exact ((hnew.kp (by simp [insC]) ((Kp.refl (fun _=>False) _).drew) (fun h=>h)).put (vs:=insC x) rfl).kp (by simp [insC]) kW (fun h=>h)
 clear hHeld s1 s2 HRG
 generalize ((w0.alloc (.cells #[int i64 0,int i64 0,int i64 0,int i64 0,int i64 0,int i64 0,int i64 0,int i64 0,int i64 0,int i64 0,int i64 0,int i64 0,int i64 0,int i64 0] 120)).drew.setCells w0.heap.size 0 (insC x))=w2 at *
 have HKW:Hid (Nw w w2):=HK0.out.trans KW2.out
 have hs2:w0.heap.size<w2.heap.size:=(HB4.out w2 (Kp.refl _ _)).lt (by simp [insC])
 have hsz:w.heap.size<w2.heap.size:=by have:=HS0.out;omega
 have hR2:R<w2.heap.size:=by omega
 have HRC:Hid (∀(n an:Nat) (z y:Int) (W:World) (ov:Value) (s:Tn),z=n→y=an→StM W R g cap l hand fr turn gb ov wv ev s→n≤2000→an<16→s.opn.length≤100000→Calls Tryz.prog 104 #[.pointer (some ⟨R,0,none⟩),.int .i64 z,.int .i64 y] W (RcPost W R g cap l hand fr turn gb ov wv ev (rchS s z an))):=by
  rintro n an z y W ov s rfl rfl hS h1 h2 h3
  exact reachT_any R g cap l hand fr turn gb ov wv ev s n an W hS h1 h2 hn h3
 have HOW:Hid (∀b,ov.ownBlock=some b→R≤b∧b<w.heap.size):=fun b hb=>by have:=H.out.own.lt b hb;omega
 have HEND:Hid (∀W s' e w',Nw w W→RcPost W R g cap l hand fr turn gb ov wv ev s' e w'→LvPost w R g cap l hand fr turn gb s' e w'):=by
  rintro W s' e w' kW ⟨he,ov',hS,hk⟩
  exact ⟨he,ov',wv,ev,hS,(KR.of_nw kW).trans (KR.of_kf hk (fun b hb=>(HOW.out b hb).1))⟩
 have HLV:Hid (lvS hand fr s a anew x=(if x.op=0 then { s with wait:=addC s.wait (threadS hand fr a anew) } else if x.op=1 then (if hand.e.at' - fr.began≤x.a then rchS s ((a:Int)+1) anew else s) else if x.op=2 then (if soS hand fr anew x.test=true then rchS s ((a:Int)+1) anew else s) else if x.op=3 then rchS s ((a:Int)+1) (anew ||| bitN x.a) else if x.op=4 then rchS s x.a anew else if x.op=5 then rchS (rchS s x.a anew) x.b anew else if x.op=6 then { s with ended:=addC s.ended (threadS hand fr 0 anew) } else s)):=rfl
 generalize lvS hand fr s a anew x=s' at *
 have HOP:Hid (0≤x.op∧x.op≤6):=ins_op hA HX.out
 obtain ⟨hb4,hz4⟩:=HB4.out w2 (Kp.refl _ _)
 have d0:=(HB4.out w2 (Kp.refl _ _)).cell (k:=0) (v:=.int .i64 x.op) rfl
 have d1:=(HB4.out w2 (Kp.refl _ _)).cell (k:=1) (v:=.int .i64 x.a) rfl
 have d2:=(HB4.out w2 (Kp.refl _ _)).cell (k:=2) (v:=.int .i64 x.b) rfl
 have b0:=(HB3.out w2 KW2.out).cell (k:=0) (v:=.int .i64 (a:Int)) rfl
 have b1:=(HB3.out w2 KW2.out).cell (k:=1) (v:=.int .i64 (anew:Int)) rfl
 clear hb4 hz4
 obtain ⟨op,xa,xb,xt⟩:=x
 simp only at *
 by_cases o4:op=4
 ·subst o4
  have HS:Hid (s'=rchS s xa anew):=by show _=_;rw [HLV.out];rfl
  obtain ⟨ja,jb,_⟩:=ins_jump hA HX.out rfl
  simp only at ja jb
  obtain ⟨n,rfl⟩:∃n:Nat,xa=n:=⟨xa.toNat,by omega⟩
  clear HLV
  go_wp2_with fail
  refine (HRC.out n anew _ _ w2 ov s rfl rfl (H.out.nw HKW.out) (by omega) hw (by omega)).mono ?_
  rintro e3 w3 h3
  have HE:=HEND.out w2 _ e3 w3 HKW.out h3
  obtain ⟨rfl,_⟩:=h3
  have HE':Hid (LvPost w R g cap l hand fr turn gb (rchS s (n:Int) anew) (.returned (.tuple #[])) w3):=HE
  clear HE d0 d1 d2 b0 b1
  go_wp2
  go_end0
  rw [HS.out];exact HE'.out
 ·by_cases o5:op=5
  ·subst o5
   have HS:Hid (s'=rchS (rchS s xa anew) xb anew):=by show _=_;rw [HLV.out];rfl
   obtain ⟨ja,jb,jc,jd,_⟩:=ins_split hA HX.out rfl
   simp only at ja jb jc jd
   obtain ⟨n,rfl⟩:∃n:Nat,xa=n:=⟨xa.toNat,by omega⟩
   obtain ⟨m,rfl⟩:∃m:Nat,xb=m:=⟨xb.toNat,by omega⟩
   clear HLV
   go_wp2_with fail
   refine (HRC.out n anew _ _ w2 ov s rfl rfl (H.out.nw HKW.out) (by omega) hw (by omega)).mono ?_
   rintro e3 w3 ⟨rfl,ov3,hS3,hk3⟩
   have HS3:Hid (StM w3 R g cap l hand fr turn gb ov3 wv ev (rchS s (n:Int) anew)):=hS3
   have HK3:Hid (KF R gb ov ov3 w2 w3):=hk3
   have hnB:∀b,w.heap.size≤b→¬(b=R∨b=gb∨ov.ownBlock=some b):=by
    rintro b hb (e|e|e)
    ·omega
    ·have:=H.out.vis.lt;omega
    ·have:=(HOW.out b e).2;omega
   have hs0:=HS0.out
   have e2:w3.cell? ⟨w0.heap.size,2,none⟩=some (.int .i64 (m:Int)):=(hk3.kp.cell (p:=⟨w0.heap.size,2,none⟩) hs2 (hnB w0.heap.size (by omega))).trans d2
   have f1:w3.cell? ⟨w.heap.size,1,none⟩=some (.int .i64 (anew:Int)):=(hk3.kp.cell (p:=⟨w.heap.size,1,none⟩) hsz (hnB w.heap.size (Nat.le_refl _))).trans b1
   have hs3:w0.heap.size<w3.heap.size:=Nat.lt_of_lt_of_le hs2 hk3.kp.size
   have hs4:w.heap.size<w3.heap.size:=Nat.lt_of_lt_of_le hsz hk3.kp.size
   have HLQ:Hid ((rchS s (n:Int) anew).opn.length≤100000):=by have:=rchS_len s (n:Int) anew;show _≤_;omega
   have HO3:Hid (∀b,ov3.ownBlock=some b→R≤b):=fun b hb=>by have:=(HS3.out.own.lt b hb).1;omega
   clear d0 d1 d2 b0 b1 hS3 hk3 hnB hs0
   go_wp2_with fail
   refine (HRC.out m anew _ _ w3 ov3 _ rfl rfl HS3.out (by omega) hw HLQ.out).mono ?_
   rintro e4 w4 ⟨rfl,ov4,hS4,hk4⟩
   have HE':Hid (LvPost w R g cap l hand fr turn gb s' (.returned (.tuple #[])) w4):=⟨rfl,ov4,wv,ev,by rw [HS.out];exact hS4,((KR.of_nw HKW.out).trans (KR.of_kf HK3.out (fun b hb=>(HOW.out b hb).1))).trans (KR.of_kf hk4 HO3.out)⟩
   clear hS4 hk4 e2 f1
   go_wp2
   go_end0
   exact HE'.out
  ·by_cases o3:op=3
   ·subst o3
    have HS:Hid (s'=rchS s ((a:Int)+1) (anew ||| bitN xa)):=by show _=_;rw [HLV.out];rfl
    have HBIT:Hid (∀W,Calls Tryz.prog 115 #[.int .i64 xa] W fun r w'=>r=.returned (.int .i64 (bitN xa))∧w'=W):=bit_any xa
    have hbb:bitN xa<16:=bitN_lt xa
    have hbo:bits .or .i64 (anew:Int) ((bitN xa:Nat):Int)=((anew ||| bitN xa:Nat):Int):=bits_or anew (bitN xa) (by omega) (by omega)
    have HLT:Hid (anew ||| bitN xa<16):=Nat.or_lt_two_pow (n:=4) hw hbb
    generalize bitN xa=bb at *
    clear HLV
    have t1:∀W,Nw w2 W→W.cell? ⟨w.heap.size,1,none⟩=some (.int .i64 (anew:Int)):=fun W kW=>(kW.cell (p:=⟨w.heap.size,1,none⟩) hsz (fun h=>h)).trans b1
    have t2:∀W,Nw w2 W→W.cell? ⟨w0.heap.size,1,none⟩=some (.int .i64 xa):=fun W kW=>(kW.cell (p:=⟨w0.heap.size,1,none⟩) hs2 (fun h=>h)).trans d1
    go_wp2
    refine wp_region_held_drew (S:=fun W=>Nw w2 W) (by kernel_rfl) ((Kp.refl _ _).drew) (fun hHeld => ?_)
    refine tM 0 rfl (fun W hSW=>by (try dsimp only at hSW);go_simp;rw []) hHeld ?_
    refine tM 1 rfl (fun W hSW=>by (try dsimp only at hSW);go_simp;rw []) hHeld ?_
    refine tM 2 rfl (fun W hSW=>by (try dsimp only at hSW);go_simp;rw []) hHeld ?_
    refine tM 3 rfl (fun W hSW=>by (try dsimp only at hSW);go_simp;rw []) hHeld ?_
    refine wpAnyH_ready (rs:=[4]) (by kernel_rfl) (by simp) ?_
    refine consL rfl (fun K hK => ?_) AllReadyH.nil
    go_simp
    refine (HBIT.out _).mono ?_
    rintro e7 w7 ⟨rfl,rfl⟩
    try dsimp only
    refine hK.out _ _ hHeld (fun _ => ?_)
    clear hK K
    try simp only [Act.put,sA,sZ,sS]
    refine tM 5 rfl (fun W hSW=>by (try dsimp only at hSW);go_simp;rw []) hHeld ?_
    refine tM 6 rfl (fun W hSW=>by (try dsimp only at hSW);go_simp;rw []) hHeld ?_
    refine wpAnyH_done (by kernel_rfl) ?_ _
    have HK3:Hid (Nw w w2.drew):=HKW.out.drew
    clear t1 t2 hHeld d0 d1 d2
    go_wp2_with fail
    refine (HRC.out (a+1) (anew ||| bb) _ _ w2.drew ov s (by push_cast;rfl) rfl (H.out.nw HK3.out) (by omega) HLT.out (by omega)).mono ?_
    rintro e3 w3 h3
    have HE:=HEND.out w2.drew _ e3 w3 HK3.out h3
    obtain ⟨rfl,_⟩:=h3
    have HE':Hid (LvPost w R g cap l hand fr turn gb s' (.returned (.tuple #[])) w3):=by rw [HS.out];exact HE
    clear HE b0 b1
    go_wp2
    go_end0
    exact HE'.out
   ·by_cases o2:op=2
    ·subst o2
     have HS:Hid (s'=if soS hand fr anew xt=true then rchS s ((a:Int)+1) anew else s):=by show _=_;rw [HLV.out];rfl
     have HSO:Hid (∀W,Nw w W→Calls Tryz.prog 114 #[.pointer (some ⟨R,0,none⟩),.agg (tstC xt).toArray,.int .i64 (anew:Int)] W (SoPost (soS hand fr anew xt) W)):=fun W kW=>isSo_any R hand fr xt anew hw hok htk hI.l hI.r hI.m W (H.out.nw kW).hnd (H.out.nw kW).frm
     obtain ⟨dt,hdu,hdd⟩:=Option.map_eq_some_iff.1 Tryz.rowTs
     have HDU:Hid (Tryz.prog.underlying 118=some dt):=hdu
     have HDD:Hid (dt.isRow=true):=hdd
     have HTR:Hid (w2.rangeAt w0.heap.size 3 (tstC xt)):=ins_test (HB4.out w2 (Kp.refl _ _))
     have HTS:Hid ((Tryz.prog.info? 118).map (·.size)=some (tstC xt).length):=size_ts xt
     generalize soS hand fr anew xt=so at *
     generalize tstC xt=LX at *
     clear HLV hdu hdd
     go_wp2_with (first
      | (with_reducible (show Go.wpList _ _ _ ({ dst:=_,op:=Op.load 118 _,type:=_,pos:=_,after:=_,guard:=_ }::_) _ _);refine wpList_load_mid rfl 118 _ rfl w0.heap.size 3 rfl LX dt HTR.out HDU.out HDD.out HTS.out ?_)
      | fail)
     refine (HSO.out _ HKW.out).mono ?_
     rintro e3 w3 ⟨rfl,k3⟩
     have HK3:Hid (Nw w w3):=HKW.out.trans k3
     have f0:w3.cell? ⟨w.heap.size,0,none⟩=some (.int .i64 (a:Int)):=(k3.cell (p:=⟨w.heap.size,0,none⟩) hsz (fun h=>h)).trans b0
     have f1:w3.cell? ⟨w.heap.size,1,none⟩=some (.int .i64 (anew:Int)):=(k3.cell (p:=⟨w.heap.size,1,none⟩) hsz (fun h=>h)).trans b1
     have hs3:w.heap.size<w3.heap.size:=Nat.lt_of_lt_of_le hsz k3.size
     clear d0 d1 d2 b0 b1 k3 HTR
     cases so with
     | true =>
      rw [if_pos rfl] at HS
      go_wp2_with fail
      refine (HRC.out (a+1) anew _ _ w3 ov s (by push_cast;rfl) rfl (H.out.nw HK3.out) (by omega) hw (by omega)).mono ?_
      rintro e4 w4 h4
      have HE:=HEND.out w3 _ e4 w4 HK3.out h4
      obtain ⟨rfl,_⟩:=h4
      have HE':Hid (LvPost w R g cap l hand fr turn gb s' (.returned (.tuple #[])) w4):=by rw [HS.out];exact HE
      clear HE f0 f1
      go_wp2
      go_end0
      exact HE'.out
     | false =>
      rw [if_neg (by simp)] at HS
      go_wp2
      go_end0
      exact ⟨rfl,ov,wv,ev,by rw [HS.out];exact H.out.nw HK3.out,KR.of_nw HK3.out⟩
    ·by_cases o1:op=1
     ·subst o1
      have HS:Hid (s'=if hand.e.at' - fr.began≤xa then rchS s ((a:Int)+1) anew else s):=by show _=_;rw [HLV.out];rfl
      obtain ⟨ta,tb⟩:=ht1
      obtain ⟨tc,td⟩:=ht2
      have t1:∀W,Nw w2 W→W.cell? ⟨R,2,none⟩=some (.int .i64 hand.e.at'):=fun W kW=>(H.out.nw (HKW.out.trans kW)).hnd 1 _ rfl
      have t2:∀W,Nw w2 W→W.cell? ⟨R,9,none⟩=some (.int .i64 fr.began):=fun W kW=>(H.out.nw (HKW.out.trans kW)).frm 2 _ rfl
      have t3:∀W,Nw w2 W→W.cell? ⟨w0.heap.size,1,none⟩=some (.int .i64 xa):=fun W kW=>(kW.cell (p:=⟨w0.heap.size,1,none⟩) hs2 (fun h=>h)).trans d1
      have hwr:IntKind.i64.wrap (hand.e.at' - fr.began)=hand.e.at' - fr.began:=IntWalk.i64_in _ (by omega)
      clear HLV
      generalize hand.e.at'=ea at *
      generalize fr.began=fb at *
      by_cases hle:ea - fb≤xa
      ·rw [if_pos hle] at HS
       have hle':decide (ea - fb≤xa)=true:=by simpa using hle
       go_wp2
       refine wp_region_held_drew (S:=fun W=>Nw w2 W) (by kernel_rfl) ((Kp.refl _ _).drew) (fun hHeld => ?_)
       refine tM 0 rfl (fun W hSW=>by (try dsimp only at hSW);go_simp;rw []) hHeld ?_
       refine tM 1 rfl (fun W hSW=>by (try dsimp only at hSW);go_simp;rw []) hHeld ?_
       refine tM 2 rfl (fun W hSW=>by (try dsimp only at hSW);go_simp;rw []) hHeld ?_
       refine tM 3 rfl (fun W hSW=>by (try dsimp only at hSW);go_simp;rw []) hHeld ?_
       refine tM 4 rfl (fun W hSW=>by (try dsimp only at hSW);go_simp;rw []) hHeld ?_
       refine tM 5 rfl (fun W hSW=>by (try dsimp only at hSW);go_simp;rw []) hHeld ?_
       refine tM 6 rfl (fun W hSW=>by (try dsimp only at hSW);go_simp;rw []) hHeld ?_
       refine tM 7 rfl (fun W hSW=>by (try dsimp only at hSW);go_simp;rw []) hHeld ?_
       refine tM 8 rfl (fun W hSW=>by (try dsimp only at hSW);go_simp;rw []) hHeld ?_
       refine tM 9 rfl (fun W hSW=>by (try dsimp only at hSW);go_simp;rw []) hHeld ?_
       refine tM 10 rfl (fun W hSW=>by (try dsimp only at hSW);go_simp;rw []) hHeld ?_
       refine tM 11 rfl (fun W hSW=>by (try dsimp only at hSW);go_simp;rw []) hHeld ?_
       refine tM 12 rfl (fun W hSW=>by (try dsimp only at hSW);go_simp;rw []) hHeld ?_
       refine tM 13 rfl (fun W hSW=>by (try dsimp only at hSW);go_simp;rw []) hHeld ?_
       refine tM 14 rfl (fun W hSW=>by (try dsimp only at hSW);go_simp;rw []) hHeld ?_
       refine wpAnyH_done (by kernel_rfl) ?_ _
       have HK3:Hid (Nw w w2.drew):=HKW.out.drew
       clear t1 t2 t3 hHeld d0 d1 d2
       go_wp2_with fail
       refine (HRC.out (a+1) anew _ _ w2.drew ov s (by push_cast;rfl) rfl (H.out.nw HK3.out) (by omega) hw (by omega)).mono ?_
       rintro e3 w3 h3
       have HE:=HEND.out w2.drew _ e3 w3 HK3.out h3
       obtain ⟨rfl,_⟩:=h3
       have HE':Hid (LvPost w R g cap l hand fr turn gb s' (.returned (.tuple #[])) w3):=by rw [HS.out];exact HE
       clear HE b0 b1
       go_wp2
       go_end0
       exact HE'.out
      ·rw [if_neg hle] at HS
       have hle':decide (ea - fb≤xa)=false:=by simpa using hle
       go_wp2
       refine wp_region_held_drew (S:=fun W=>Nw w2 W) (by kernel_rfl) ((Kp.refl _ _).drew) (fun hHeld => ?_)
       refine tM 0 rfl (fun W hSW=>by (try dsimp only at hSW);go_simp;rw []) hHeld ?_
       refine tM 1 rfl (fun W hSW=>by (try dsimp only at hSW);go_simp;rw []) hHeld ?_
       refine tM 2 rfl (fun W hSW=>by (try dsimp only at hSW);go_simp;rw []) hHeld ?_
       refine tM 3 rfl (fun W hSW=>by (try dsimp only at hSW);go_simp;rw []) hHeld ?_
       refine tM 4 rfl (fun W hSW=>by (try dsimp only at hSW);go_simp;rw []) hHeld ?_
       refine tM 5 rfl (fun W hSW=>by (try dsimp only at hSW);go_simp;rw []) hHeld ?_
       refine tM 6 rfl (fun W hSW=>by (try dsimp only at hSW);go_simp;rw []) hHeld ?_
       refine tM 7 rfl (fun W hSW=>by (try dsimp only at hSW);go_simp;rw []) hHeld ?_
       refine tM 8 rfl (fun W hSW=>by (try dsimp only at hSW);go_simp;rw []) hHeld ?_
       refine tM 9 rfl (fun W hSW=>by (try dsimp only at hSW);go_simp;rw []) hHeld ?_
       refine tM 10 rfl (fun W hSW=>by (try dsimp only at hSW);go_simp;rw []) hHeld ?_
       refine tM 11 rfl (fun W hSW=>by (try dsimp only at hSW);go_simp;rw []) hHeld ?_
       refine tM 12 rfl (fun W hSW=>by (try dsimp only at hSW);go_simp;rw []) hHeld ?_
       refine tM 13 rfl (fun W hSW=>by (try dsimp only at hSW);go_simp;rw []) hHeld ?_
       refine tM 14 rfl (fun W hSW=>by (try dsimp only at hSW);go_simp;rw []) hHeld ?_
       refine wpAnyH_done (by kernel_rfl) ?_ _
       have HK3:Hid (Nw w w2.drew):=HKW.out.drew
       clear t1 t2 t3 hHeld d0 d1 d2
       go_wp2
       go_end0
       exact ⟨rfl,ov,wv,ev,by rw [HS.out];exact H.out.nw HK3.out,KR.of_nw HK3.out⟩
     ·by_cases o0:op=0
      ·subst o0
       have HS:Hid (s'={ s with wait:=addC s.wait (threadS hand fr (a:Int) anew) }):=by show _=_;rw [HLV.out];rfl
       have HTO:Hid (∀W,Nw w W→Calls Tryz.prog 112 #[.pointer (some ⟨R,0,none⟩),.agg #[.int .i64 (a:Int),.int .i64 (anew:Int)]] W fun r w'=>r=.returned (.agg (thC (threadS hand fr (a:Int) anew)).toArray)∧Nw W w'):=fun W kW=>threadOf_any R hand fr (a:Int) anew hw W (H.out.nw kW).hnd (H.out.nw kW).frm
       have HTT:ThrOk (threadS hand fr (a:Int) anew):=threadS_ok hok htk (by unfold In64;omega) anew
       have HAC:Hid (∀W,StM W R g cap l hand fr turn gb ov wv ev s→Calls Tryz.prog 113 #[.pointer (some ⟨R,37,none⟩),.agg (thC (threadS hand fr (a:Int) anew)).toArray] W (CrPost W R 37 (R+1) wv (addC s.wait (threadS hand fr (a:Int) anew)))):=fun W hS=>addC_any R 37 (R+1) wv s.wait (threadS hand fr (a:Int) anew) W hS.wait hwl hwk HTT hS.lt
       have HI:Hid ((Tryz.prog.info? 129).map (·.size)=some (thC (threadS hand fr (a:Int) anew)).length):=size_th _
       have HIA:Hid ((Tryz.prog.info? 129).map (·.size)=some (thC (threadS hand fr (a:Int) anew)).toArray.size):=size_thA _
       have HON:Hid (∀v∈thC (threadS hand fr (a:Int) anew),v.oneCell'=true):=thC_one _
       have HLN:Hid ((thC (threadS hand fr (a:Int) anew)).length=27):=thC_len _
       obtain ⟨dt,hdu,hdd⟩:=Option.map_eq_some_iff.1 Tryz.rowTh
       have HDU:Hid (Tryz.prog.underlying 129=some dt):=hdu
       have HDD:Hid (dt.isRow=true):=hdd
       generalize addC s.wait (threadS hand fr (a:Int) anew)=c' at *
       generalize thC (threadS hand fr (a:Int) anew)=LX at *
       clear HLV hdu hdd HTT
       go_wp2_with fail
       refine (HTO.out _ HKW.out).mono ?_
       rintro e3 w3 ⟨rfl,k3⟩
       have HK3:Hid (Nw w w3):=HKW.out.trans k3
       have HBX:Hid (Bx ((w3.alloc (.cells #[int i64 0,int i64 0,int i64 0,int i64 0,int i64 0,int i64 0,int i64 0,int i64 0,int i64 0,int i64 0,int i64 0,int i64 0,int i64 0,int i64 0,int i64 0,int i64 0,int i64 0,int i64 0,int i64 0,int i64 0,int i64 0,int i64 0,int i64 0,int i64 0,int i64 0,int i64 0,int i64 0] 129)).setCells w3.heap.size 0 LX) w3.heap.size LX):=by
        have hnew:=Bx.new w3 (thC th0) 129
        rw [zerosTh] at hnew
        exact hnew.put (by rw [thC_len,HLN.out])
       have HTX:Hid ((w3.alloc (.cells #[int i64 0,int i64 0,int i64 0,int i64 0,int i64 0,int i64 0,int i64 0,int i64 0,int i64 0,int i64 0,int i64 0,int i64 0,int i64 0,int i64 0,int i64 0,int i64 0,int i64 0,int i64 0,int i64 0,int i64 0,int i64 0,int i64 0,int i64 0,int i64 0,int i64 0,int i64 0,int i64 0] 129)).there w3.heap.size 0 LX.toArray.size):=by
        have hnew:=Bx.new w3 (thC th0) 129
        rw [zerosTh] at hnew
        exact hnew.there (by rw [thC_len,List.size_toArray,HLN.out])
       have K4:Hid (Nw w ((w3.alloc (.cells #[int i64 0,int i64 0,int i64 0,int i64 0,int i64 0,int i64 0,int i64 0,int i64 0,int i64 0,int i64 0,int i64 0,int i64 0,int i64 0,int i64 0,int i64 0,int i64 0,int i64 0,int i64 0,int i64 0,int i64 0,int i64 0,int i64 0,int i64 0,int i64 0,int i64 0,int i64 0,int i64 0] 129)).setCells w3.heap.size 0 LX)):=(HK3.out.alloc _).trans' (kp_setCells _ 0 _) (by intro b hb e;have:=HK3.out.size;omega)
       have hs3:w.heap.size≤w3.heap.size:=HK3.out.size
       clear d0 d1 d2 b0 b1 k3
       go_wp2_with (first
        | (with_reducible (show Go.wpList _ _ _ ({ dst:=_,op:=Op.store 129 _ _,type:=_,pos:=_,after:=_,guard:=_ }::_) _ _);refine wpList_store_mid rfl 129 _ _ rfl w3.heap.size 0 LX.toArray rfl rfl HTX.out HIA.out (all_oneCell_toArray HON.out) ?_)
        | fail)
       generalize ((w3.alloc (.cells #[int i64 0,int i64 0,int i64 0,int i64 0,int i64 0,int i64 0,int i64 0,int i64 0,int i64 0,int i64 0,int i64 0,int i64 0,int i64 0,int i64 0,int i64 0,int i64 0,int i64 0,int i64 0,int i64 0,int i64 0,int i64 0,int i64 0,int i64 0,int i64 0,int i64 0,int i64 0,int i64 0] 129)).setCells w3.heap.size 0 LX)=w4 at *
       have HB4':Hid (∀W,Nw w4 W→W.rangeAt w3.heap.size 0 LX):=fun W kW=>(HBX.out.kp (by rw [HLN.out];omega) kW (fun h=>h)).r
       have hs4:w3.heap.size<w4.heap.size:=HBX.out.lt (by rw [HLN.out];omega)
       refine wp_region_held_drew (S:=fun W=>W.rangeAt w3.heap.size 0 LX) (by kernel_rfl) (HB4'.out _ ((Kp.refl _ _).drew)) (fun hHeld => ?_)
       refine tM 0 rfl (fun W hSW=>by (try dsimp only at hSW);go_simp;rw []) hHeld ?_
       refine tM 1 rfl (fun W hSW=>by (try dsimp only at hSW);go_simp;rw []) hHeld ?_
       refine tM 2 rfl (fun W hSW=>by (try dsimp only at hSW);go_simp;rw []) hHeld ?_
       refine tN (i:=3) (v:=_) rfl (yieldsIf_load_mid (by rfl) 129 _ rfl w3.heap.size (0) rfl LX dt (fun W kW=>kW) HDU.out HDD.out HI.out) hHeld ?_
       refine wpAnyH_ready (rs:=[4]) (by kernel_rfl) (by simp) ?_
       refine consL rfl (fun K hK => ?_) AllReadyH.nil
       go_simp
       refine (HAC.out _ (H.out.nw K4.out.drew)).mono ?_
       rintro e7 w7 ⟨rfl,v',hc7,hf7⟩
       have hS7:w7.rangeAt w3.heap.size 0 LX:=range_kp (HB4'.out _ (Kp.refl _ w4).drew) hs4 hf7.kp (fun h=>h.elim (fun e=>by omega) (fun e=>by have:=(H.out.wait.own.lt _ e).2;omega))
       try dsimp only
       refine hK.out _ _ hS7 (fun _ => ?_)
       clear hK K
       try simp only [Act.put,sA,sZ,sS]
       refine wpAnyH_done (by kernel_rfl) ?_ _
       have HE':Hid (LvPost w R g cap l hand fr turn gb s' (.returned (.tuple #[])) w7):=⟨rfl,ov,v',ev,by rw [HS.out];exact (H.out.nw K4.out.drew).waited hc7 hf7,(KR.of_nw K4.out.drew).trans (KR.of_cr hf7 (fun b hb=>by have:=(H.out.wait.own.lt b hb).1;omega))⟩
       clear hc7 hf7 hS7 hHeld
       go_wp2
       go_end0
       exact HE'.out
      ·have o6:op=6:=by have:=HOP.out;omega
       subst o6
       have HS:Hid (s'={ s with ended:=addC s.ended (threadS hand fr 0 anew) }):=by show _=_;rw [HLV.out];rfl
       have HTO:Hid (∀W,Nw w W→Calls Tryz.prog 112 #[.pointer (some ⟨R,0,none⟩),.agg #[.int .i64 0,.int .i64 (anew:Int)]] W fun r w'=>r=.returned (.agg (thC (threadS hand fr 0 anew)).toArray)∧Nw W w'):=fun W kW=>threadOf_any R hand fr 0 anew hw W (H.out.nw kW).hnd (H.out.nw kW).frm
       have HTT:ThrOk (threadS hand fr 0 anew):=threadS_ok hok htk (by decide) anew
       have HAC:Hid (∀W,StM W R g cap l hand fr turn gb ov wv ev s→Calls Tryz.prog 113 #[.pointer (some ⟨R,40,none⟩),.agg (thC (threadS hand fr 0 anew)).toArray] W (CrPost W R 40 (R+1) ev (addC s.ended (threadS hand fr 0 anew)))):=fun W hS=>addC_any R 40 (R+1) ev s.ended (threadS hand fr 0 anew) W hS.ended hel hek HTT hS.lt
       have HI:Hid ((Tryz.prog.info? 129).map (·.size)=some (thC (threadS hand fr 0 anew)).length):=size_th _
       have HIA:Hid ((Tryz.prog.info? 129).map (·.size)=some (thC (threadS hand fr 0 anew)).toArray.size):=size_thA _
       have HON:Hid (∀v∈thC (threadS hand fr 0 anew),v.oneCell'=true):=thC_one _
       have HLN:Hid ((thC (threadS hand fr 0 anew)).length=27):=thC_len _
       obtain ⟨dt,hdu,hdd⟩:=Option.map_eq_some_iff.1 Tryz.rowTh
       have HDU:Hid (Tryz.prog.underlying 129=some dt):=hdu
       have HDD:Hid (dt.isRow=true):=hdd
       generalize addC s.ended (threadS hand fr 0 anew)=c' at *
       generalize thC (threadS hand fr 0 anew)=LX at *
       clear HLV hdu hdd HTT
       go_wp2_with fail
       refine (HTO.out _ HKW.out).mono ?_
       rintro e3 w3 ⟨rfl,k3⟩
       have HK3:Hid (Nw w w3):=HKW.out.trans k3
       have HBX:Hid (Bx ((w3.alloc (.cells #[int i64 0,int i64 0,int i64 0,int i64 0,int i64 0,int i64 0,int i64 0,int i64 0,int i64 0,int i64 0,int i64 0,int i64 0,int i64 0,int i64 0,int i64 0,int i64 0,int i64 0,int i64 0,int i64 0,int i64 0,int i64 0,int i64 0,int i64 0,int i64 0,int i64 0,int i64 0,int i64 0] 129)).setCells w3.heap.size 0 LX) w3.heap.size LX):=by
        have hnew:=Bx.new w3 (thC th0) 129
        rw [zerosTh] at hnew
        exact hnew.put (by rw [thC_len,HLN.out])
       have HTX:Hid ((w3.alloc (.cells #[int i64 0,int i64 0,int i64 0,int i64 0,int i64 0,int i64 0,int i64 0,int i64 0,int i64 0,int i64 0,int i64 0,int i64 0,int i64 0,int i64 0,int i64 0,int i64 0,int i64 0,int i64 0,int i64 0,int i64 0,int i64 0,int i64 0,int i64 0,int i64 0,int i64 0,int i64 0,int i64 0] 129)).there w3.heap.size 0 LX.toArray.size):=by
        have hnew:=Bx.new w3 (thC th0) 129
        rw [zerosTh] at hnew
        exact hnew.there (by rw [thC_len,List.size_toArray,HLN.out])
       have K4:Hid (Nw w ((w3.alloc (.cells #[int i64 0,int i64 0,int i64 0,int i64 0,int i64 0,int i64 0,int i64 0,int i64 0,int i64 0,int i64 0,int i64 0,int i64 0,int i64 0,int i64 0,int i64 0,int i64 0,int i64 0,int i64 0,int i64 0,int i64 0,int i64 0,int i64 0,int i64 0,int i64 0,int i64 0,int i64 0,int i64 0] 129)).setCells w3.heap.size 0 LX)):=(HK3.out.alloc _).trans' (kp_setCells _ 0 _) (by intro b hb e;have:=HK3.out.size;omega)
       have hs3:w.heap.size≤w3.heap.size:=HK3.out.size
       clear d0 d1 d2 b0 b1 k3
       go_wp2_with (first
        | (with_reducible (show Go.wpList _ _ _ ({ dst:=_,op:=Op.store 129 _ _,type:=_,pos:=_,after:=_,guard:=_ }::_) _ _);refine wpList_store_mid rfl 129 _ _ rfl w3.heap.size 0 LX.toArray rfl rfl HTX.out HIA.out (all_oneCell_toArray HON.out) ?_)
        | fail)
       generalize ((w3.alloc (.cells #[int i64 0,int i64 0,int i64 0,int i64 0,int i64 0,int i64 0,int i64 0,int i64 0,int i64 0,int i64 0,int i64 0,int i64 0,int i64 0,int i64 0,int i64 0,int i64 0,int i64 0,int i64 0,int i64 0,int i64 0,int i64 0,int i64 0,int i64 0,int i64 0,int i64 0,int i64 0,int i64 0] 129)).setCells w3.heap.size 0 LX)=w4 at *
       have HB4':Hid (∀W,Nw w4 W→W.rangeAt w3.heap.size 0 LX):=fun W kW=>(HBX.out.kp (by rw [HLN.out];omega) kW (fun h=>h)).r
       have hs4:w3.heap.size<w4.heap.size:=HBX.out.lt (by rw [HLN.out];omega)
       refine wp_region_held_drew (S:=fun W=>W.rangeAt w3.heap.size 0 LX) (by kernel_rfl) (HB4'.out _ ((Kp.refl _ _).drew)) (fun hHeld => ?_)
       refine tM 0 rfl (fun W hSW=>by (try dsimp only at hSW);go_simp;rw []) hHeld ?_
       refine tM 1 rfl (fun W hSW=>by (try dsimp only at hSW);go_simp;rw []) hHeld ?_
       refine tM 2 rfl (fun W hSW=>by (try dsimp only at hSW);go_simp;rw []) hHeld ?_
       refine tN (i:=3) (v:=_) rfl (yieldsIf_load_mid (by rfl) 129 _ rfl w3.heap.size (0) rfl LX dt (fun W kW=>kW) HDU.out HDD.out HI.out) hHeld ?_
       refine wpAnyH_ready (rs:=[4]) (by kernel_rfl) (by simp) ?_
       refine consL rfl (fun K hK => ?_) AllReadyH.nil
       go_simp
       refine (HAC.out _ (H.out.nw K4.out.drew)).mono ?_
       rintro e7 w7 ⟨rfl,v',hc7,hf7⟩
       have hS7:w7.rangeAt w3.heap.size 0 LX:=range_kp (HB4'.out _ (Kp.refl _ w4).drew) hs4 hf7.kp (fun h=>h.elim (fun e=>by omega) (fun e=>by have:=(H.out.ended.own.lt _ e).2;omega))
       try dsimp only
       refine hK.out _ _ hS7 (fun _ => ?_)
       clear hK K
       try simp only [Act.put,sA,sZ,sS]
       refine wpAnyH_done (by kernel_rfl) ?_ _
       have HE':Hid (LvPost w R g cap l hand fr turn gb s' (.returned (.tuple #[])) w7):=⟨rfl,ov,wv,v',by rw [HS.out];exact (H.out.nw K4.out.drew).endedd hc7 hf7,(KR.of_nw K4.out.drew).trans (KR.of_cr hf7 (fun b hb=>by have:=(H.out.ended.own.lt b hb).1;omega))⟩
       clear hc7 hf7 hS7 hHeld
       go_wp2
       go_end0
       exact HE'.out
end Go.Proofs.YtcboiapggnmpfaaGreatDoor
