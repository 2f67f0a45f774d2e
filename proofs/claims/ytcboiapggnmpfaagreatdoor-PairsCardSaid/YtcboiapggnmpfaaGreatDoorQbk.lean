import Derived.Test.YtcboiapggnmpfaaGreatDoorQbj
namespace Go.Proofs.YtcboiapggnmpfaaGreatDoor
set_option maxRecDepth 100000
set_option maxHeartbeats 8000000
set_option linter.unusedSimpArgs false
set_option linter.unusedVariables false
open Go.RowKit
open Value (int bool slice)
open IntKind (i64)
theorem newT_ok {hand:Nmb} (hh:In64 hand.n∧EvOk hand.e) (ht:TimeOk hand.e.at') {b:Nat} (hb:b≤1000):TOk (newT (b:Int) hand):=by
 refine ⟨⟨by show In64 (b:Int);unfold In64;omega,hh.1,hh.2.t,?_⟩,ht,by show (0:Int)≤(b:Int);omega⟩
 intro i
 have:(newT (b:Int) hand).hd i=nmb0:=by
  match i with
  | 0=>rfl
  | 1=>rfl
  | 2=>rfl
  | n+3=>rfl
 rw [this]
 exact ⟨by decide,ev0_ok⟩
def SoverPost (w:World) (g cap:Nat) (l:List In) (hand:Nmb) (c:Crw×Crw) (r:Ending) (w':World):Prop :=
 ∃(fr:Thr) (turn:Nat) (rv ov wv ev:Value) (s:Tn),r=.returned (.agg (stpC (.slice (some ⟨g,0,none⟩) l.length cap) hand fr turn rv ov wv s.wait.most s.wait.over ev s.ended.most s.ended.over).toArray)∧s.wait=c.1∧s.ended=c.2∧rv.oneCell'=true∧w'.ownsRow w.heap.size 129 27 wv s.wait.l.length (thsC s.wait.l)∧w'.ownsRow w.heap.size 129 27 ev s.ended.l.length (thsC s.ended.l)∧w'.ownsRow w.heap.size 205 2 ov s.opn.length (spsC s.opn)∧TnOk l.length s∧Nw w w'
theorem stepOver_any (A:Nat) (sc:List Int) (live found:Int) (g cap:Nat) (l:List In) (bv:Value) (bs:List Nat) (wv:Value) (ws:List Thr) (count:Nat) (last:Int) (spent:Bool) (e:Evt) (hand:Nmb) (hh:hand=⟨(count:Int),e⟩) (w:World) (h:RunM w A sc live found g cap l bv bs wv ws count last spent) (hn:l.length≤1000) (hA:AllIns l) (hI:∀x∈l,InOk x) (he:EvOk e) (ht:TimeOk e.at') (hc:count≤1000000000) (hw:ws.length≤10000) (hb:bs.length≤2000) (hbl:∀b∈bs,b<l.length) (hwk:∀u∈ws,TOk u) (hlv:live≤10000) (hfd:found≤10000) :
  Calls Tryz.prog 54 #[.pointer (some ⟨A,0,none⟩),evV e] w (SoverPost w g cap l hand (stepS l hand ws bs live found)):=by
 have H:Hid (RunM w A sc live found g cap l bv bs wv ws count last spent):=h
 have hAl:=h.lt
 have HK4:Hid (Nw w ((w.alloc (.cells #[.int .i64 e.at',.int .i64 e.kind,.int .i64 e.x,.int .i64 e.y,.int .i64 e.z] 32)).alloc (.cells #[slice none 0 0,int i64 0,int i64 0,int i64 0,int i64 0,int i64 0,int i64 0,int i64 0,int i64 0,int i64 0,int i64 0,int i64 0,int i64 0,int i64 0,int i64 0,int i64 0,int i64 0,int i64 0,int i64 0,int i64 0,int i64 0,int i64 0,int i64 0,int i64 0,int i64 0,int i64 0,int i64 0,int i64 0,int i64 0,int i64 0,int i64 0,int i64 0,int i64 0,int i64 0,int i64 0,slice none 0 0,slice none 0 0,slice none 0 0,int i64 0,bool false,slice none 0 0,int i64 0,bool false] 134))):=((Kp.refl _ w).alloc _).alloc _
 have HB3:Hid (Bx ((w.alloc (.cells #[.int .i64 e.at',.int .i64 e.kind,.int .i64 e.x,.int .i64 e.y,.int .i64 e.z] 32)).alloc (.cells #[slice none 0 0,int i64 0,int i64 0,int i64 0,int i64 0,int i64 0,int i64 0,int i64 0,int i64 0,int i64 0,int i64 0,int i64 0,int i64 0,int i64 0,int i64 0,int i64 0,int i64 0,int i64 0,int i64 0,int i64 0,int i64 0,int i64 0,int i64 0,int i64 0,int i64 0,int i64 0,int i64 0,int i64 0,int i64 0,int i64 0,int i64 0,int i64 0,int i64 0,int i64 0,int i64 0,slice none 0 0,slice none 0 0,slice none 0 0,int i64 0,bool false,slice none 0 0,int i64 0,bool false] 134)) w.heap.size [.int .i64 e.at',.int .i64 e.kind,.int .i64 e.x,.int .i64 e.y,.int .i64 e.z]):=(Bx.new w [.int .i64 e.at',.int .i64 e.kind,.int .i64 e.x,.int .i64 e.y,.int .i64 e.z] 32).kp (by simp) ((Kp.refl (fun _=>False) _).alloc _) (fun h=>h)
 have HB4:Hid (Bx ((w.alloc (.cells #[.int .i64 e.at',.int .i64 e.kind,.int .i64 e.x,.int .i64 e.y,.int .i64 e.z] 32)).alloc (.cells #[slice none 0 0,int i64 0,int i64 0,int i64 0,int i64 0,int i64 0,int i64 0,int i64 0,int i64 0,int i64 0,int i64 0,int i64 0,int i64 0,int i64 0,int i64 0,int i64 0,int i64 0,int i64 0,int i64 0,int i64 0,int i64 0,int i64 0,int i64 0,int i64 0,int i64 0,int i64 0,int i64 0,int i64 0,int i64 0,int i64 0,int i64 0,int i64 0,int i64 0,int i64 0,int i64 0,slice none 0 0,slice none 0 0,slice none 0 0,int i64 0,bool false,slice none 0 0,int i64 0,bool false] 134)) (w.heap.size+1) stp0):=by
  have:=Bx.new (w.alloc (.cells #[.int .i64 e.at',.int .i64 e.kind,.int .i64 e.x,.int .i64 e.y,.int .i64 e.z] 32)) stp0 134
  rw [zerosSt] at this
  rwa [show (w.alloc (.cells #[.int .i64 e.at',.int .i64 e.kind,.int .i64 e.x,.int .i64 e.y,.int .i64 e.z] 32)).heap.size=w.heap.size+1 by simp] at this
 have hA4:A<((w.alloc (.cells #[.int .i64 e.at',.int .i64 e.kind,.int .i64 e.x,.int .i64 e.y,.int .i64 e.z] 32)).alloc (.cells #[slice none 0 0,int i64 0,int i64 0,int i64 0,int i64 0,int i64 0,int i64 0,int i64 0,int i64 0,int i64 0,int i64 0,int i64 0,int i64 0,int i64 0,int i64 0,int i64 0,int i64 0,int i64 0,int i64 0,int i64 0,int i64 0,int i64 0,int i64 0,int i64 0,int i64 0,int i64 0,int i64 0,int i64 0,int i64 0,int i64 0,int i64 0,int i64 0,int i64 0,int i64 0,int i64 0,slice none 0 0,slice none 0 0,slice none 0 0,int i64 0,bool false,slice none 0 0,int i64 0,bool false] 134)).heap.size:=by simp;omega
 have HNM:Hid (nmC hand=[.int .i64 (count:Int),.int .i64 e.at',.int .i64 e.kind,.int .i64 e.x,.int .i64 e.y,.int .i64 e.z]):=by show _=_;rw [hh];rfl
 have hok:In64 hand.n∧EvOk hand.e:=by rw [hh];exact ⟨by show In64 (count:Int);unfold In64;omega,he⟩
 have ht1:TimeOk hand.e.at':=by rw [hh];exact ht
 clear hh
 unfold evV
 go_enter Tryz.func54,Tryz.ntmps54
 go_wp2
 generalize ((w.alloc (.cells #[.int .i64 e.at',.int .i64 e.kind,.int .i64 e.x,.int .i64 e.y,.int .i64 e.z] 32)).alloc (.cells #[slice none 0 0,int i64 0,int i64 0,int i64 0,int i64 0,int i64 0,int i64 0,int i64 0,int i64 0,int i64 0,int i64 0,int i64 0,int i64 0,int i64 0,int i64 0,int i64 0,int i64 0,int i64 0,int i64 0,int i64 0,int i64 0,int i64 0,int i64 0,int i64 0,int i64 0,int i64 0,int i64 0,int i64 0,int i64 0,int i64 0,int i64 0,int i64 0,int i64 0,int i64 0,int i64 0,slice none 0 0,slice none 0 0,slice none 0 0,int i64 0,bool false,slice none 0 0,int i64 0,bool false] 134))=w4 at *
 have hs4:w.heap.size+1<w4.heap.size:=HB4.out.lt (by rw [stp0_len];omega)
 have s1:∀W,Nw w4 W→W.cell? ⟨A,10,none⟩=some (.int .i64 (count:Int)):=fun W kW=>(H.out.nw (HK4.out.trans kW)).ct
 have s2:∀W,Nw w4 W→W.cell? ⟨w.heap.size,0,none⟩=some (.int .i64 e.at')∧W.cell? ⟨w.heap.size,1,none⟩=some (.int .i64 e.kind)∧W.cell? ⟨w.heap.size,2,none⟩=some (.int .i64 e.x)∧W.cell? ⟨w.heap.size,3,none⟩=some (.int .i64 e.y)∧W.cell? ⟨w.heap.size,4,none⟩=some (.int .i64 e.z):=fun W kW=>by
  have hb:=HB3.out.kp (by simp) kW (fun h=>h)
  exact ⟨hb.cell (k:=0) rfl,hb.cell (k:=1) rfl,hb.cell (k:=2) rfl,hb.cell (k:=3) rfl,hb.cell (k:=4) rfl⟩
 have HB5:Hid (Bx ((w4.alloc (.cells #[int i64 0,int i64 0,int i64 0,int i64 0,int i64 0,int i64 0] 126)).drew.setCells w4.heap.size 0 (nmC hand)) w4.heap.size (nmC hand)):=((Bx.new w4 (nmC nz) 126).kp (by simp [nmC]) ((Kp.refl (fun _=>False) _).drew) (fun h=>h)).put (by rw [nmC_len,nmC_len])
 have HK5:Hid (Nw w4 ((w4.alloc (.cells #[int i64 0,int i64 0,int i64 0,int i64 0,int i64 0,int i64 0] 126)).drew.setCells w4.heap.size 0 (nmC hand))):=(((Kp.refl _ _).alloc _).drew).trans' (kp_setCells _ 0 _) (by intro b hb e;omega)
 refine wp_region_held_drew (S:=fun W=>Nw w4 W) (by kernel_rfl) ((Kp.refl _ _).drew) (fun hHeld => ?_)
 refine tM 0 rfl (fun W hSW=>by (try dsimp only at hSW);go_simp;rw []) hHeld ?_
 refine tM 1 rfl (fun W hSW=>by (try dsimp only at hSW);go_simp;rw []) hHeld ?_
 refine tM 2 rfl (fun W hSW=>by (try dsimp only at hSW);go_simp;rw []) hHeld ?_
 refine tM 3 rfl (fun W hSW=>by (try dsimp only at hSW);go_simp;rw []) hHeld ?_
 refine tM 4 rfl (fun W hSW=>by (try dsimp only at hSW);go_simp;rw []) hHeld ?_
 refine tM 5 rfl (fun W hSW=>by (try dsimp only at hSW);go_simp;rw []) hHeld ?_
 refine wpAnyH_ready (rs:=[6]) (by kernel_rfl) (by simp) ?_
 refine consL rfl (fun K hK => ?_) AllReadyH.nil
 go_simp
 refine hK.out _ _ (((Kp.refl _ _).alloc _).drew) (fun _ => ?_)
 clear hK K
 try simp only [Act.put,sA,sZ,sS]
 refine wpAnyH_ready (rs:=[7]) (by kernel_rfl) (by simp) ?_
 refine consL rfl (fun K hK => ?_) AllReadyH.nil
 rw [if_pos (by rfl)]
 refine wp_store_mid 126 _ _ rfl w4.heap.size 0 (nmC hand).toArray rfl (by rw [HNM.out];rfl) ?_ (size_nmA _) (all_oneCell_toArray (nmC_one _)) ?_
 ·exact ((Bx.new w4 (nmC nz) 126).kp (by simp [nmC]) ((Kp.refl (fun _=>False) _).drew) (fun h=>h)).there (by rw [nmC_len,List.size_toArray,nmC_len])
 refine hK.out _ _ HK5.out (fun _ => ?_)
 clear hK K
 try simp only [Act.put,sA,sZ,sS]
 refine wpAnyH_done (by kernel_rfl) ?_ _
 clear hHeld s1 s2
 generalize ((w4.alloc (.cells #[int i64 0,int i64 0,int i64 0,int i64 0,int i64 0,int i64 0] 126)).drew.setCells w4.heap.size 0 (nmC hand))=w5 at *
 have HK5W:Hid (Nw w w5):=HK4.out.trans HK5.out
 have hs5:w4.heap.size<w5.heap.size:=HB5.out.lt (by rw [nmC_len];omega)
 have hA5:A<w5.heap.size:=by omega
 obtain ⟨dn,hdu,hdd⟩:=Option.map_eq_some_iff.1 Tryz.rowNm
 have HDU:Hid (Tryz.prog.underlying 126=some dn):=hdu
 have HDD:Hid (dn.isRow=true):=hdd
 clear hdu hdd
 have t1:∀W,Nw w5 W→W.cell? ⟨A,7,none⟩=some (.slice (some ⟨g,0,none⟩) l.length cap):=fun W kW=>(H.out.nw (HK5W.out.trans kW)).cd
 have t2:∀W,Nw w5 W→W.cell? ⟨A,5,none⟩=some (.int .i64 live)∧W.cell? ⟨A,6,none⟩=some (.int .i64 found):=fun W kW=>⟨(H.out.nw (HK5W.out.trans kW)).l0,(H.out.nw (HK5W.out.trans kW)).l1⟩
 have HNS:Hid (∀W,Calls Tryz.prog 84 #[.slice (some ⟨g,0,none⟩) l.length cap,.agg #[.int .i64 live,.int .i64 found],.agg (nmC hand).toArray] W (NsPost g cap l.length live found hand W)):=fun W=>newStep_any g cap l.length live found hand W hn
 go_wp2
 refine wp_region_held_drew (S:=fun W=>Nw w5 W) (by kernel_rfl) ((Kp.refl _ _).drew) (fun hHeld => ?_)
 refine tM 0 rfl (fun W hSW=>by (try dsimp only at hSW);go_simp;rw []) hHeld ?_
 refine tM 1 rfl (fun W hSW=>by (try dsimp only at hSW);go_simp;rw []) hHeld ?_
 refine tM 2 rfl (fun W hSW=>by (try dsimp only at hSW);go_simp;rw []) hHeld ?_
 refine tM 3 rfl (fun W hSW=>by (try dsimp only at hSW);go_simp;rw []) hHeld ?_
 refine tM 4 rfl (fun W hSW=>by (try dsimp only at hSW);go_simp;rw []) hHeld ?_
 refine tM 5 rfl (fun W hSW=>by (try dsimp only at hSW);go_simp;rw []) hHeld ?_
 refine tM 6 rfl (fun W hSW=>by (try dsimp only at hSW);go_simp;rw []) hHeld ?_
 refine tM 7 rfl (fun W hSW=>by (try dsimp only at hSW);go_simp;rw []) hHeld ?_
 refine tN (i:=8) (v:=_) rfl (yieldsIf_load_mid (by rfl) 126 _ rfl w4.heap.size (0) rfl (nmC hand) dn (fun W kW=>(HB5.out.kp (by rw [nmC_len];omega) kW (fun h=>h)).r) HDU.out HDD.out (size_nm hand)) hHeld ?_
 refine wpAnyH_ready (rs:=[9,10]) (by kernel_rfl) (by simp) ?_
 refine consL rfl (fun K hK => ?_) (consL rfl (fun K hK => ?_) AllReadyH.nil)
 ·go_simp
  refine (HNS.out _).mono ?_
  rintro e7 w7 ⟨gb,rfl,hrow7,hgb7,k7⟩
  have k8:Nw w5 w7:=((Kp.refl _ _).drew).trans k7
  try dsimp only
  refine hK.out _ _ k8 (fun _ => ?_)
  clear hK K
  try simp only [Act.put,sA,sZ,sS]
  have HRW7:Hid (Row w7 gb 3 (intsV (List.replicate (16*l.length) 0))):=hrow7
  have hgb5:w5.heap.size≤gb:=hgb7
  have HK7:Hid (Nw w5 w7):=k8
  have h57:w5.heap.size≤w7.heap.size:=k8.size
  have hgl7:gb<w7.heap.size:=hrow7.lt
  have HB8:Hid (Bx ((w7.alloc (.cells #[slice none 0 0,int i64 0,int i64 0,int i64 0,int i64 0,int i64 0,int i64 0,int i64 0,int i64 0,int i64 0,int i64 0,int i64 0,int i64 0,int i64 0,int i64 0,int i64 0,int i64 0,int i64 0,int i64 0,int i64 0,int i64 0,int i64 0,int i64 0,int i64 0,int i64 0,int i64 0,int i64 0,int i64 0,int i64 0,int i64 0,int i64 0,int i64 0,int i64 0,int i64 0,int i64 0,slice none 0 0,slice none 0 0,slice none 0 0,int i64 0,bool false,slice none 0 0,int i64 0,bool false] 134)).setCells w7.heap.size 0 (stpC (.slice (some ⟨g,0,none⟩) l.length cap) hand th0 0 (.slice (some ⟨gb,0,none⟩) (16*l.length) (16*l.length)) (.slice none 0 0) (.slice none 0 0) live false (.slice none 0 0) found false)) w7.heap.size (stpC (.slice (some ⟨g,0,none⟩) l.length cap) hand th0 0 (.slice (some ⟨gb,0,none⟩) (16*l.length) (16*l.length)) (.slice none 0 0) (.slice none 0 0) live false (.slice none 0 0) found false)):=by
   have hnew:=Bx.new w7 stp0 134
   rw [zerosSt] at hnew
   exact hnew.put (by rw [stp0_len,stpC_len])
  have HTH8:Hid ((w7.alloc (.cells #[slice none 0 0,int i64 0,int i64 0,int i64 0,int i64 0,int i64 0,int i64 0,int i64 0,int i64 0,int i64 0,int i64 0,int i64 0,int i64 0,int i64 0,int i64 0,int i64 0,int i64 0,int i64 0,int i64 0,int i64 0,int i64 0,int i64 0,int i64 0,int i64 0,int i64 0,int i64 0,int i64 0,int i64 0,int i64 0,int i64 0,int i64 0,int i64 0,int i64 0,int i64 0,int i64 0,slice none 0 0,slice none 0 0,slice none 0 0,int i64 0,bool false,slice none 0 0,int i64 0,bool false] 134)).there w7.heap.size 0 (stpC (.slice (some ⟨g,0,none⟩) l.length cap) hand th0 0 (.slice (some ⟨gb,0,none⟩) (16*l.length) (16*l.length)) (.slice none 0 0) (.slice none 0 0) live false (.slice none 0 0) found false).toArray.size):=by
   have hnew:=Bx.new w7 stp0 134
   rw [zerosSt] at hnew
   exact hnew.there (by rw [stp0_len,List.size_toArray,stpC_len])
  have HK8:Hid (Nw w7 ((w7.alloc (.cells #[slice none 0 0,int i64 0,int i64 0,int i64 0,int i64 0,int i64 0,int i64 0,int i64 0,int i64 0,int i64 0,int i64 0,int i64 0,int i64 0,int i64 0,int i64 0,int i64 0,int i64 0,int i64 0,int i64 0,int i64 0,int i64 0,int i64 0,int i64 0,int i64 0,int i64 0,int i64 0,int i64 0,int i64 0,int i64 0,int i64 0,int i64 0,int i64 0,int i64 0,int i64 0,int i64 0,slice none 0 0,slice none 0 0,slice none 0 0,int i64 0,bool false,slice none 0 0,int i64 0,bool false] 134)).setCells w7.heap.size 0 (stpC (.slice (some ⟨g,0,none⟩) l.length cap) hand th0 0 (.slice (some ⟨gb,0,none⟩) (16*l.length) (16*l.length)) (.slice none 0 0) (.slice none 0 0) live false (.slice none 0 0) found false))):=((Kp.refl _ _).alloc _).trans' (kp_setCells _ 0 _) (by intro b hb e;omega)
  have HSZ:Hid ((Tryz.prog.info? 134).map (·.size)=some (stpC (.slice (some ⟨g,0,none⟩) l.length cap) hand th0 0 (.slice (some ⟨gb,0,none⟩) (16*l.length) (16*l.length)) (.slice none 0 0) (.slice none 0 0) live false (.slice none 0 0) found false).toArray.size):=by show _=_;rw [List.size_toArray,stpC_len];exact Tryz.sizeSt
  have HON:Hid (∀v∈(stpC (.slice (some ⟨g,0,none⟩) l.length cap) hand th0 0 (.slice (some ⟨gb,0,none⟩) (16*l.length) (16*l.length)) (.slice none 0 0) (.slice none 0 0) live false (.slice none 0 0) found false),v.oneCell'=true):=stpC_one rfl rfl rfl rfl rfl _ _ _ _ _ _ _
  clear hrow7 hgb7 k7
  refine wpAnyH_ready (rs:=[10]) (by kernel_rfl) (by simp) ?_
  refine consL rfl (fun K hK => ?_) AllReadyH.nil
  go_simp
  refine hK.out _ _ (k8.trans ((Kp.refl _ _).alloc _)) (fun _ => ?_)
  clear hK K
  try simp only [Act.put,sA,sZ,sS]
  refine wpAnyH_ready (rs:=[11]) (by kernel_rfl) (by simp) ?_
  refine consL rfl (fun K hK => ?_) AllReadyH.nil
  rw [if_pos (by rfl)]
  refine wp_store_mid 134 _ _ rfl w7.heap.size 0 (stpC (.slice (some ⟨g,0,none⟩) l.length cap) hand th0 0 (.slice (some ⟨gb,0,none⟩) (16*l.length) (16*l.length)) (.slice none 0 0) (.slice none 0 0) live false (.slice none 0 0) found false).toArray rfl rfl HTH8.out HSZ.out (all_oneCell_toArray HON.out) ?_
  refine hK.out _ _ (k8.trans HK8.out) (fun _ => ?_)
  clear hK K
  try simp only [Act.put,sA,sZ,sS]
  refine wpAnyH_done (by kernel_rfl) ?_ _
  clear hHeld t1 t2 k8 HNS HTH8 HSZ HON
  have HINIT:Hid (StM ((w7.alloc (.cells #[slice none 0 0,int i64 0,int i64 0,int i64 0,int i64 0,int i64 0,int i64 0,int i64 0,int i64 0,int i64 0,int i64 0,int i64 0,int i64 0,int i64 0,int i64 0,int i64 0,int i64 0,int i64 0,int i64 0,int i64 0,int i64 0,int i64 0,int i64 0,int i64 0,int i64 0,int i64 0,int i64 0,int i64 0,int i64 0,int i64 0,int i64 0,int i64 0,int i64 0,int i64 0,int i64 0,slice none 0 0,slice none 0 0,slice none 0 0,int i64 0,bool false,slice none 0 0,int i64 0,bool false] 134)).setCells w7.heap.size 0 (stpC (.slice (some ⟨g,0,none⟩) l.length cap) hand th0 0 (.slice (some ⟨gb,0,none⟩) (16*l.length) (16*l.length)) (.slice none 0 0) (.slice none 0 0) live false (.slice none 0 0) found false)) w7.heap.size g cap l hand th0 0 gb (.slice none 0 0) (.slice none 0 0) (.slice none 0 0) ⟨List.replicate (16*l.length) true,[],⟨[],live,false⟩,⟨[],found,false⟩⟩):=by
   have hk:Nw w ((w7.alloc (.cells #[slice none 0 0,int i64 0,int i64 0,int i64 0,int i64 0,int i64 0,int i64 0,int i64 0,int i64 0,int i64 0,int i64 0,int i64 0,int i64 0,int i64 0,int i64 0,int i64 0,int i64 0,int i64 0,int i64 0,int i64 0,int i64 0,int i64 0,int i64 0,int i64 0,int i64 0,int i64 0,int i64 0,int i64 0,int i64 0,int i64 0,int i64 0,int i64 0,int i64 0,int i64 0,int i64 0,slice none 0 0,slice none 0 0,slice none 0 0,int i64 0,bool false,slice none 0 0,int i64 0,bool false] 134)).setCells w7.heap.size 0 (stpC (.slice (some ⟨g,0,none⟩) l.length cap) hand th0 0 (.slice (some ⟨gb,0,none⟩) (16*l.length) (16*l.length)) (.slice none 0 0) (.slice none 0 0) live false (.slice none 0 0) found false)):=HK5W.out.trans (HK7.out.trans HK8.out)
   have hgw:=H.out.code.lt
   exact StM.init HB8.out (H.out.code.kp hk (fun h=>h)) (HRW7.out.kp HK8.out (fun h=>h)) (by omega) (by omega) (by omega)
  have HKW8:Hid (Nw w ((w7.alloc (.cells #[slice none 0 0,int i64 0,int i64 0,int i64 0,int i64 0,int i64 0,int i64 0,int i64 0,int i64 0,int i64 0,int i64 0,int i64 0,int i64 0,int i64 0,int i64 0,int i64 0,int i64 0,int i64 0,int i64 0,int i64 0,int i64 0,int i64 0,int i64 0,int i64 0,int i64 0,int i64 0,int i64 0,int i64 0,int i64 0,int i64 0,int i64 0,int i64 0,int i64 0,int i64 0,int i64 0,slice none 0 0,slice none 0 0,slice none 0 0,int i64 0,bool false,slice none 0 0,int i64 0,bool false] 134)).setCells w7.heap.size 0 (stpC (.slice (some ⟨g,0,none⟩) l.length cap) hand th0 0 (.slice (some ⟨gb,0,none⟩) (16*l.length) (16*l.length)) (.slice none 0 0) (.slice none 0 0) live false (.slice none 0 0) found false))):=HK5W.out.trans (HK7.out.trans HK8.out)
  have HB58:Hid (Bx ((w7.alloc (.cells #[slice none 0 0,int i64 0,int i64 0,int i64 0,int i64 0,int i64 0,int i64 0,int i64 0,int i64 0,int i64 0,int i64 0,int i64 0,int i64 0,int i64 0,int i64 0,int i64 0,int i64 0,int i64 0,int i64 0,int i64 0,int i64 0,int i64 0,int i64 0,int i64 0,int i64 0,int i64 0,int i64 0,int i64 0,int i64 0,int i64 0,int i64 0,int i64 0,int i64 0,int i64 0,int i64 0,slice none 0 0,slice none 0 0,slice none 0 0,int i64 0,bool false,slice none 0 0,int i64 0,bool false] 134)).setCells w7.heap.size 0 (stpC (.slice (some ⟨g,0,none⟩) l.length cap) hand th0 0 (.slice (some ⟨gb,0,none⟩) (16*l.length) (16*l.length)) (.slice none 0 0) (.slice none 0 0) live false (.slice none 0 0) found false)) w4.heap.size (nmC hand)):=HB5.out.kp (by rw [nmC_len];omega) (HK7.out.trans HK8.out) (fun h=>h)
  have HB48:Hid (Bx ((w7.alloc (.cells #[slice none 0 0,int i64 0,int i64 0,int i64 0,int i64 0,int i64 0,int i64 0,int i64 0,int i64 0,int i64 0,int i64 0,int i64 0,int i64 0,int i64 0,int i64 0,int i64 0,int i64 0,int i64 0,int i64 0,int i64 0,int i64 0,int i64 0,int i64 0,int i64 0,int i64 0,int i64 0,int i64 0,int i64 0,int i64 0,int i64 0,int i64 0,int i64 0,int i64 0,int i64 0,int i64 0,slice none 0 0,slice none 0 0,slice none 0 0,int i64 0,bool false,slice none 0 0,int i64 0,bool false] 134)).setCells w7.heap.size 0 (stpC (.slice (some ⟨g,0,none⟩) l.length cap) hand th0 0 (.slice (some ⟨gb,0,none⟩) (16*l.length) (16*l.length)) (.slice none 0 0) (.slice none 0 0) live false (.slice none 0 0) found false)) (w.heap.size+1) stp0):=HB4.out.kp (by rw [stp0_len];omega) (HK5.out.trans (HK7.out.trans HK8.out)) (fun h=>h)
  have hs8:w7.heap.size<(((w7.alloc (.cells #[slice none 0 0,int i64 0,int i64 0,int i64 0,int i64 0,int i64 0,int i64 0,int i64 0,int i64 0,int i64 0,int i64 0,int i64 0,int i64 0,int i64 0,int i64 0,int i64 0,int i64 0,int i64 0,int i64 0,int i64 0,int i64 0,int i64 0,int i64 0,int i64 0,int i64 0,int i64 0,int i64 0,int i64 0,int i64 0,int i64 0,int i64 0,int i64 0,int i64 0,int i64 0,int i64 0,slice none 0 0,slice none 0 0,slice none 0 0,int i64 0,bool false,slice none 0 0,int i64 0,bool false] 134)).setCells w7.heap.size 0 (stpC (.slice (some ⟨g,0,none⟩) l.length cap) hand th0 0 (.slice (some ⟨gb,0,none⟩) (16*l.length) (16*l.length)) (.slice none 0 0) (.slice none 0 0) live false (.slice none 0 0) found false))).heap.size:=HB8.out.lt (by rw [stpC_len];omega)
  clear HB8 HK8 HRW7
  generalize ((w7.alloc (.cells #[slice none 0 0,int i64 0,int i64 0,int i64 0,int i64 0,int i64 0,int i64 0,int i64 0,int i64 0,int i64 0,int i64 0,int i64 0,int i64 0,int i64 0,int i64 0,int i64 0,int i64 0,int i64 0,int i64 0,int i64 0,int i64 0,int i64 0,int i64 0,int i64 0,int i64 0,int i64 0,int i64 0,int i64 0,int i64 0,int i64 0,int i64 0,int i64 0,int i64 0,int i64 0,int i64 0,slice none 0 0,slice none 0 0,slice none 0 0,int i64 0,bool false,slice none 0 0,int i64 0,bool false] 134)).setCells w7.heap.size 0 (stpC (.slice (some ⟨g,0,none⟩) l.length cap) hand th0 0 (.slice (some ⟨gb,0,none⟩) (16*l.length) (16*l.length)) (.slice none 0 0) (.slice none 0 0) live false (.slice none 0 0) found false))=w8 at *
  generalize w7.heap.size=R at *
  clear HK7
  have HRUN:Hid (∀W,KR R gb w8 W→RunM W A sc live found g cap l bv bs wv ws count last spent∧Bx W w4.heap.size (nmC hand)∧Bx W (w.heap.size+1) stp0∧A<W.heap.size):=by
   intro W kW
   have k1:KR R gb w W:=(KR.of_nw HKW8.out).trans kW
   have hw8:w4.heap.size<w8.heap.size:=by omega
   exact ⟨H.out.kp k1 (fun b hb=>by show ¬(R≤b∨b=gb);omega),HB58.out.kp (by rw [nmC_len];omega) kW (by show ¬(R≤w4.heap.size∨w4.heap.size=gb);omega),HB48.out.kp (by rw [stp0_len];omega) kW (by show ¬(R≤w.heap.size+1∨w.heap.size+1=gb);omega),by have:=kW.size;omega⟩
  have HIO:Hid (∀x∈l,InOk x):=hI
  have HWK:Hid (∀u∈ws,TOk u):=hwk
  have HBL:Hid (∀b∈bs,b<l.length):=hbl
  clear hI hwk hbl HB58 HB48 HB5 HB3 HB4
  go_wp2
  go_loopg [7] ws.length (fun m v7 wr=>∃i:Nat,v7=.int .i64 i∧m=ws.length - i∧i≤ws.length∧(∃(fr:Thr) (turn:Nat) (ov' wv' ev':Value) (s:Tn),StM wr R g cap l hand fr turn gb ov' wv' ev' s∧s.wait=((ws.take i).foldl (goOnS l hand) ((⟨[],live,false⟩:Crw),(⟨[],found,false⟩:Crw))).1∧s.ended=((ws.take i).foldl (goOnS l hand) ((⟨[],live,false⟩:Crw),(⟨[],found,false⟩:Crw))).2∧turn≤i∧(s.opn=[]∨overT s=true)∧s.opn.length≤20000+turn∧TnOk l.length s∧KR R gb w8 wr))
  case atStart=>exact ⟨0,rfl,rfl,by omega,th0,0,_,_,_,_,HINIT.out,rfl,rfl,Nat.le_refl _,Or.inl rfl,by simp,⟨⟨hlv,by simp,by simp⟩,⟨hfd,by simp,by simp⟩,by simp,by simp⟩,Kp.refl _ _⟩
  case round =>
   obtain ⟨i,rfl,hm,hi,fr,turn,ov',wv',ev',s,hS,hsw,hse,htu,hop,hol,hT,hkr⟩:=hrel
   have HM:Hid (_=ws.length - i):=hm
   have HS:Hid (StM wr R g cap l hand fr turn gb ov' wv' ev' s):=hS
   have HSW:Hid (s.wait=((ws.take i).foldl (goOnS l hand) ((⟨[],live,false⟩:Crw),(⟨[],found,false⟩:Crw))).1∧s.ended=((ws.take i).foldl (goOnS l hand) ((⟨[],live,false⟩:Crw),(⟨[],found,false⟩:Crw))).2):=⟨hsw,hse⟩
   have HSO:Hid ((s.opn=[]∨overT s=true)∧s.opn.length≤20000+turn∧TnOk l.length s):=⟨hop,hol,hT⟩
   have HKR:Hid (KR R gb w8 wr):=hkr
   obtain ⟨hrun,hbn,hbr,hAr⟩:=HRUN.out wr hkr
   have q9:=hrun.wt
   have HRUNR:Hid (RunM wr A sc live found g cap l bv bs wv ws count last spent):=hrun
   obtain ⟨wp,wcc,hwve⟩:=ownsLenX hrun.wo
   clear hm hS hsw hse hop hol hT hkr hrun hbn hbr HINIT
   subst hwve
   by_cases hil:i<ws.length
   ·obtain ⟨u,hu⟩:∃u,ws[i]? = some u:=⟨_,List.getElem?_eq_getElem hil⟩
    obtain ⟨gw,cw,hgw⟩:=owns_some HRUNR.out.wo (by omega)
    simp only [Value.slice.injEq,true_and] at hgw
    obtain ⟨rfl,rfl⟩:=hgw
    have HU:Hid (ws[i]? = some u):=hu
    have HR27:Hid (wr.rangeAt gw (i*27) (thC u)):=owns_rangeT HRUNR.out.wo hu
    have hgwl:gw<wr.heap.size:=(HRUNR.out.wo.lt gw rfl).2
    obtain ⟨dt,hdu,hdd⟩:=Option.map_eq_some_iff.1 Tryz.rowTh
    have HTU:Hid (Tryz.prog.underlying 129=some dt):=hdu
    have HTD:Hid (dt.isRow=true):=hdd
    have HGO:Hid (Calls Tryz.prog 85 #[.pointer (some ⟨R,0,none⟩),.agg (thC u).toArray] wr (GoPost wr R g cap l hand gb turn (goOnS l hand (s.wait,s.ended) u))):=goOnT_any R g cap l hand fr turn gb ov' wv' ev' s u wr HS.out HSO.out.2.2 HSO.out.1 HSO.out.2.1 (by omega) (HWK.out u (List.mem_of_getElem? hu)) hn hA HIO.out hok ht1
    have HSI:Hid ((Tryz.prog.info? 129).map (·.size)=some (thC u).length):=size_th u
    have HTK:Hid ((ws.take (i+1)).foldl (goOnS l hand) ((⟨[],live,false⟩:Crw),(⟨[],found,false⟩:Crw))=goOnS l hand (s.wait,s.ended) u):=by
     show _=_
     rw [List.take_add_one,hu,Option.toList_some,List.foldl_append,HSW.out.1,HSW.out.2]
     rfl
    clear hu hdu hdd
    generalize thC u=LU at *
    go_wp2_with (first
     | (with_reducible (show Go.wpList _ _ _ ({ dst:=_,op:=Op.load 129 _,type:=_,pos:=_,after:=_,guard:=_ }::_) _ _);refine wpList_load_mid rfl 129 _ rfl gw (i*27) (by simp [go_sem]) LU dt HR27.out HTU.out HTD.out HSI.out ?_)
     | fail)
    refine HGO.out.mono ?_
    rintro e9 w9 ⟨rfl,fr9,turn9,ov9,wv9,ev9,s9,hS9,hsw9,hse9,htu9,hop9,hol9,hT9,hk9⟩
    have HNX:Hid (∃(fr:Thr) (turn:Nat) (ov' wv' ev':Value) (s:Tn),StM w9 R g cap l hand fr turn gb ov' wv' ev' s∧s.wait=((ws.take (i+1)).foldl (goOnS l hand) ((⟨[],live,false⟩:Crw),(⟨[],found,false⟩:Crw))).1∧s.ended=((ws.take (i+1)).foldl (goOnS l hand) ((⟨[],live,false⟩:Crw),(⟨[],found,false⟩:Crw))).2∧turn≤(i+1)∧(s.opn=[]∨overT s=true)∧s.opn.length≤20000+turn∧TnOk l.length s∧KR R gb w8 w9):=⟨fr9,turn9,ov9,wv9,ev9,s9,hS9,by rw [HTK.out];exact hsw9,by rw [HTK.out];exact hse9,by omega,hop9,hol9,hT9,HKR.out.trans hk9⟩
    clear hS9 hsw9 hse9 htu9 hop9 hol9 hT9 hk9 q9 HGO HTK HR27
    go_wp2
    go_roundg (ws.length - (i+1))
    case measure=>rw [HM.out];omega
    case rel=>exact ⟨i+1,by simp,rfl,by omega,HNX.out⟩
   ·have hie:i=ws.length:=by omega
    subst hie
    rw [List.take_length] at HSW
    have HL1:Hid (∃(fr:Thr) (turn:Nat) (ov' wv' ev':Value) (s:Tn),StM wr R g cap l hand fr turn gb ov' wv' ev' s∧s.wait=(ws.foldl (goOnS l hand) ((⟨[],live,false⟩:Crw),(⟨[],found,false⟩:Crw))).1∧s.ended=(ws.foldl (goOnS l hand) ((⟨[],live,false⟩:Crw),(⟨[],found,false⟩:Crw))).2∧turn≤ws.length+0∧(s.opn=[]∨overT s=true)∧s.opn.length≤20000+turn∧TnOk l.length s∧KR R gb w8 wr):=⟨fr,turn,ov',_,ev',s,HS.out,HSW.out.1,HSW.out.2,by omega,HSO.out.1,HSO.out.2.1,HSO.out.2.2,HKR.out⟩
    have HSTEP:Hid (stepS l hand ws bs live found=(bs.map (fun b:Nat=>newT (b:Int) hand)).foldl (goOnS l hand) (ws.foldl (goOnS l hand) ((⟨[],live,false⟩:Crw),(⟨[],found,false⟩:Crw)))):=rfl
    generalize ws.foldl (goOnS l hand) ((⟨[],live,false⟩:Crw),(⟨[],found,false⟩:Crw))=C1 at *
    generalize stepS l hand ws bs live found=CF at *
    clear HS HSW HSO HKR HRUNR HM
    go_wp2
    go_loopg [8] bs.length (fun m v8 wr=>∃i:Nat,v8=.int .i64 i∧m=bs.length - i∧i≤bs.length∧(∃(fr:Thr) (turn:Nat) (ov' wv' ev':Value) (s:Tn),StM wr R g cap l hand fr turn gb ov' wv' ev' s∧s.wait=(((bs.take i).map (fun b:Nat=>newT (b:Int) hand)).foldl (goOnS l hand) C1).1∧s.ended=(((bs.take i).map (fun b:Nat=>newT (b:Int) hand)).foldl (goOnS l hand) C1).2∧turn≤ws.length+i∧(s.opn=[]∨overT s=true)∧s.opn.length≤20000+turn∧TnOk l.length s∧KR R gb w8 wr))
    case atStart=>exact ⟨0,rfl,rfl,by omega,HL1.out⟩
    case round =>
     obtain ⟨i,rfl,hm,hi,fr,turn,ov',wv',ev',s,hS,hsw,hse,htu,hop,hol,hT,hkr⟩:=hrel
     have HM:Hid (_=bs.length - i):=hm
     have HS:Hid (StM wr R g cap l hand fr turn gb ov' wv' ev' s):=hS
     have HSW:Hid (s.wait=(((bs.take i).map (fun b:Nat=>newT (b:Int) hand)).foldl (goOnS l hand) C1).1∧s.ended=(((bs.take i).map (fun b:Nat=>newT (b:Int) hand)).foldl (goOnS l hand) C1).2):=⟨hsw,hse⟩
     have HSO:Hid ((s.opn=[]∨overT s=true)∧s.opn.length≤20000+turn∧TnOk l.length s):=⟨hop,hol,hT⟩
     have HKR:Hid (KR R gb w8 wr):=hkr
     obtain ⟨hrun,hbn,hbr,hAr⟩:=HRUN.out wr hkr
     have q8:=hrun.bg
     have HRUNR:=hrun.bo
     have HBO:Hid (wr.ownsRow 0 3 1 bv bs.length (intsV bs)):=HRUNR
     have HBN:Hid (Bx wr w4.heap.size (nmC hand)):=hbn
     have HBR4:Hid (Bx wr (w.heap.size+1) stp0):=hbr
     obtain ⟨bp,bcc,hbve⟩:=ownsLenX hrun.bo
     clear hm hS hsw hse hop hol hT hkr hrun hbn hbr HL1 HRUNR
     subst hbve
     have hRr:R<wr.heap.size:=HS.out.lt
     by_cases hil:i<bs.length
     ·obtain ⟨b,hb'⟩:∃b,bs[i]? = some b:=⟨_,List.getElem?_eq_getElem hil⟩
      obtain ⟨gw,cw,hgw⟩:=owns_some HBO.out (by omega)
      simp only [Value.slice.injEq,true_and] at hgw
      obtain ⟨rfl,rfl⟩:=hgw
      have u1:∀W,Nw wr W→W.cell? ⟨A,8,none⟩=some (.slice (some ⟨gw,0,none⟩) bs.length bcc):=fun W kW=>(kW.cell (p:=⟨A,8,none⟩) hAr (fun h=>h)).trans q8
      have u2:∀W,Nw wr W→W.cell? ⟨gw,i,none⟩=some (.int .i64 (b:Int)):=fun W kW=>owns_cell (owns_kp HBO.out kW (fun _ _ h=>h)) i (intsV_get hb')
      have hgwl:gw<wr.heap.size:=(HBO.out.lt gw rfl).2
      obtain ⟨dt,hdu,hdd⟩:=Option.map_eq_some_iff.1 Tryz.rowTh
      have HTU:Hid (Tryz.prog.underlying 129=some dt):=hdu
      have HTD:Hid (dt.isRow=true):=hdd
      have hbL:b<l.length:=HBL.out b (List.mem_of_getElem? hb')
      have HTOK:TOk (newT (b:Int) hand):=newT_ok hok ht1 (by omega)
      have HNT:Hid (∀W,Calls Tryz.prog 86 #[.int .i64 (b:Int),.agg (nmC hand).toArray] W fun r w'=>r=.returned (.agg (thC (newT (b:Int) hand)).toArray)∧Nw W w'):=fun W=>newThread_any (b:Int) hand W
      have HGO:Hid (∀W,Nw wr W→Calls Tryz.prog 85 #[.pointer (some ⟨R,0,none⟩),.agg (thC (newT (b:Int) hand)).toArray] W (GoPost W R g cap l hand gb turn (goOnS l hand (s.wait,s.ended) (newT (b:Int) hand)))):=fun W kW=>goOnT_any R g cap l hand fr turn gb ov' wv' ev' s _ W (HS.out.nw kW) HSO.out.2.2 HSO.out.1 HSO.out.2.1 (by omega) HTOK hn hA HIO.out hok ht1
      have HTSI:Hid ((Tryz.prog.info? 129).map (·.size)=some (thC (newT (b:Int) hand)).length):=size_th _
      have HTSA:Hid ((Tryz.prog.info? 129).map (·.size)=some (thC (newT (b:Int) hand)).toArray.size):=size_thA _
      have HTON:Hid (∀v∈thC (newT (b:Int) hand),v.oneCell'=true):=thC_one _
      have HTLN:Hid ((thC (newT (b:Int) hand)).length=27):=thC_len _
      have HTK:Hid (((bs.take (i+1)).map (fun b:Nat=>newT (b:Int) hand)).foldl (goOnS l hand) C1=goOnS l hand (s.wait,s.ended) (newT (b:Int) hand)):=by
       show _=_
       rw [List.take_add_one,hb',Option.toList_some,List.map_append,List.foldl_append,HSW.out.1,HSW.out.2]
       rfl
      clear hb' hdu hdd HTOK
      generalize thC (newT (b:Int) hand)=LX at *
      go_wp2
      refine wp_region_held_drew (S:=fun W=>Nw wr W) (by kernel_rfl) ((Kp.refl _ _).drew) (fun hHeld => ?_)
      refine tM 0 rfl (fun W hSW=>by (try dsimp only at hSW);go_simp;rw []) hHeld ?_
      refine tM 1 rfl (fun W hSW=>by (try dsimp only at hSW);go_simp;rw []) hHeld ?_
      refine tM 2 rfl (fun W hSW=>by (try dsimp only at hSW);go_simp;rw []) hHeld ?_
      refine tM 3 rfl (fun W hSW=>by (try dsimp only at hSW);go_simp;rw []) hHeld ?_
      refine tM 4 rfl (fun W hSW=>by (try dsimp only at hSW);go_simp;rw []) hHeld ?_
      refine tM 5 rfl (fun W hSW=>by (try dsimp only at hSW);go_simp;rw []) hHeld ?_
      refine tM 6 rfl (fun W hSW=>by (try dsimp only at hSW);go_simp;rw []) hHeld ?_
      refine tN (i:=7) (v:=_) rfl (yieldsIf_load_mid (by rfl) 126 _ rfl w4.heap.size (0) rfl (nmC hand) dn (fun W kW=>(HBN.out.kp (by rw [nmC_len];omega) kW (fun h=>h)).r) HDU.out HDD.out (size_nm hand)) hHeld ?_
      clear u1 u2
      refine wpAnyH_ready (rs:=[8,9]) (by kernel_rfl) (by simp) ?_
      refine consL rfl (fun K hK => ?_) (consL rfl (fun K hK => ?_) AllReadyH.nil)
      ·go_simp
       refine (HNT.out _).mono ?_
       rintro e9 w9 ⟨rfl,k9⟩
       have k10:Nw wr w9:=((Kp.refl _ _).drew).trans k9
       try dsimp only
       refine hK.out _ _ k10 (fun _ => ?_)
       clear hK K
       try simp only [Act.put,sA,sZ,sS]
       have HBT:Hid (Bx ((w9.alloc (.cells #[int i64 0,int i64 0,int i64 0,int i64 0,int i64 0,int i64 0,int i64 0,int i64 0,int i64 0,int i64 0,int i64 0,int i64 0,int i64 0,int i64 0,int i64 0,int i64 0,int i64 0,int i64 0,int i64 0,int i64 0,int i64 0,int i64 0,int i64 0,int i64 0,int i64 0,int i64 0,int i64 0] 129)).setCells w9.heap.size 0 LX) w9.heap.size LX):=by
        have hnew:=Bx.new w9 (thC th0) 129
        rw [zerosTh] at hnew
        exact hnew.put (by rw [thC_len,HTLN.out])
       have HTT:Hid ((w9.alloc (.cells #[int i64 0,int i64 0,int i64 0,int i64 0,int i64 0,int i64 0,int i64 0,int i64 0,int i64 0,int i64 0,int i64 0,int i64 0,int i64 0,int i64 0,int i64 0,int i64 0,int i64 0,int i64 0,int i64 0,int i64 0,int i64 0,int i64 0,int i64 0,int i64 0,int i64 0,int i64 0,int i64 0] 129)).there w9.heap.size 0 LX.toArray.size):=by
        have hnew:=Bx.new w9 (thC th0) 129
        rw [zerosTh] at hnew
        exact hnew.there (by rw [thC_len,List.size_toArray,HTLN.out])
       have HK10:Hid (Nw wr ((w9.alloc (.cells #[int i64 0,int i64 0,int i64 0,int i64 0,int i64 0,int i64 0,int i64 0,int i64 0,int i64 0,int i64 0,int i64 0,int i64 0,int i64 0,int i64 0,int i64 0,int i64 0,int i64 0,int i64 0,int i64 0,int i64 0,int i64 0,int i64 0,int i64 0,int i64 0,int i64 0,int i64 0,int i64 0] 129)).setCells w9.heap.size 0 LX)):=(k10.alloc _).trans' (kp_setCells _ 0 _) (by intro b hb e;have:=k10.size;omega)
       refine wpAnyH_ready (rs:=[9]) (by kernel_rfl) (by simp) ?_
       refine consL rfl (fun K hK => ?_) AllReadyH.nil
       go_simp
       refine hK.out _ _ (k10.alloc _) (fun _ => ?_)
       clear hK K
       try simp only [Act.put,sA,sZ,sS]
       refine wpAnyH_ready (rs:=[10]) (by kernel_rfl) (by simp) ?_
       refine consL rfl (fun K hK => ?_) AllReadyH.nil
       rw [if_pos (by rfl)]
       refine wp_store_mid 129 _ _ rfl w9.heap.size 0 LX.toArray rfl rfl HTT.out HTSA.out (all_oneCell_toArray HTON.out) ?_
       refine hK.out _ _ HK10.out (fun _ => ?_)
       clear hK K
       try simp only [Act.put,sA,sZ,sS]
       refine wpAnyH_done (by kernel_rfl) ?_ _
       clear hHeld k9 k10 HTT HNT
       generalize ((w9.alloc (.cells #[int i64 0,int i64 0,int i64 0,int i64 0,int i64 0,int i64 0,int i64 0,int i64 0,int i64 0,int i64 0,int i64 0,int i64 0,int i64 0,int i64 0,int i64 0,int i64 0,int i64 0,int i64 0,int i64 0,int i64 0,int i64 0,int i64 0,int i64 0,int i64 0,int i64 0,int i64 0,int i64 0] 129)).setCells w9.heap.size 0 LX)=w10 at *
       generalize w9.heap.size=BT at *
       have hbt:BT<w10.heap.size:=HBT.out.lt (by rw [HTLN.out];omega)
       go_wp2_with (first
        | (with_reducible (show Go.wpList _ _ _ ({ dst:=_,op:=Op.load 129 _,type:=_,pos:=_,after:=_,guard:=_ }::_) _ _);refine wpList_load_mid rfl 129 _ rfl BT 0 rfl LX dt HBT.out.r HTU.out HTD.out HTSI.out ?_)
        | fail)
       refine (HGO.out _ HK10.out).mono ?_
       rintro e11 w11 ⟨rfl,fr9,turn9,ov9,wv9,ev9,s9,hS9,hsw9,hse9,htu9,hop9,hol9,hT9,hk9⟩
       have HNX:Hid (∃(fr:Thr) (turn:Nat) (ov' wv' ev':Value) (s:Tn),StM w11 R g cap l hand fr turn gb ov' wv' ev' s∧s.wait=(((bs.take (i+1)).map (fun b:Nat=>newT (b:Int) hand)).foldl (goOnS l hand) C1).1∧s.ended=(((bs.take (i+1)).map (fun b:Nat=>newT (b:Int) hand)).foldl (goOnS l hand) C1).2∧turn≤ws.length+(i+1)∧(s.opn=[]∨overT s=true)∧s.opn.length≤20000+turn∧TnOk l.length s∧KR R gb w8 w11):=⟨fr9,turn9,ov9,wv9,ev9,s9,hS9,by rw [HTK.out];exact hsw9,by rw [HTK.out];exact hse9,by omega,hop9,hol9,hT9,(HKR.out.trans (KR.of_nw HK10.out)).trans hk9⟩
       clear hS9 hsw9 hse9 htu9 hop9 hol9 hT9 hk9 HGO HTK HBT
       go_wp2
       go_roundg (bs.length - (i+1))
       case measure=>rw [HM.out];omega
       case rel=>exact ⟨i+1,by simp,rfl,by omega,HNX.out⟩
      ·go_simp
       refine hK.out _ _ (((Kp.refl _ _).alloc _).drew) (fun _ => ?_)
       clear hK K
       try simp only [Act.put,sA,sZ,sS]
       have HBA:Hid (Bx (wr.alloc (.cells #[int i64 0,int i64 0,int i64 0,int i64 0,int i64 0,int i64 0,int i64 0,int i64 0,int i64 0,int i64 0,int i64 0,int i64 0,int i64 0,int i64 0,int i64 0,int i64 0,int i64 0,int i64 0,int i64 0,int i64 0,int i64 0,int i64 0,int i64 0,int i64 0,int i64 0,int i64 0,int i64 0] 129)).drew wr.heap.size (thC th0)):=by
        have hnew:=Bx.new wr (thC th0) 129
        rw [zerosTh] at hnew
        exact hnew.kp (by rw [thC_len];omega) ((Kp.refl (fun _=>False) _).drew) (fun h=>h)
       refine wpAnyH_ready (rs:=[8]) (by kernel_rfl) (by simp) ?_
       refine consL rfl (fun K hK => ?_) AllReadyH.nil
       go_simp
       refine (HNT.out _).mono ?_
       rintro e9 w9 ⟨rfl,k9⟩
       have k10:Nw wr w9:=(((Kp.refl _ _).alloc _).drew).trans k9
       try dsimp only
       refine hK.out _ _ k10 (fun _ => ?_)
       clear hK K
       try simp only [Act.put,sA,sZ,sS]
       have HBA9:Hid (Bx w9 wr.heap.size (thC th0)):=HBA.out.kp (by rw [thC_len];omega) k9 (fun h=>h)
       have HBT:Hid (Bx (w9.setCells wr.heap.size 0 LX) wr.heap.size LX):=HBA9.out.put (by rw [thC_len,HTLN.out])
       have HTT:Hid (w9.there wr.heap.size 0 LX.toArray.size):=HBA9.out.there (by rw [thC_len,List.size_toArray,HTLN.out])
       have HK10:Hid (Nw wr (w9.setCells wr.heap.size 0 LX)):=k10.trans' (kp_setCells _ 0 _) (by intro b hb e;omega)
       refine wpAnyH_ready (rs:=[10]) (by kernel_rfl) (by simp) ?_
       refine consL rfl (fun K hK => ?_) AllReadyH.nil
       rw [if_pos (by rfl)]
       refine wp_store_mid 129 _ _ rfl wr.heap.size 0 LX.toArray rfl rfl HTT.out HTSA.out (all_oneCell_toArray HTON.out) ?_
       refine hK.out _ _ HK10.out (fun _ => ?_)
       clear hK K
       try simp only [Act.put,sA,sZ,sS]
       refine wpAnyH_done (by kernel_rfl) ?_ _
       clear hHeld k9 k10 HTT HNT HBA HBA9
       generalize (w9.setCells wr.heap.size 0 LX)=w10 at *
       obtain ⟨BT,hBTe⟩:∃BT,BT=wr.heap.size:=⟨_,rfl⟩
       rw [←hBTe] at HBT
       rw [←hBTe]
       clear hBTe
       have hbt:BT<w10.heap.size:=HBT.out.lt (by rw [HTLN.out];omega)
       go_wp2_with (first
        | (with_reducible (show Go.wpList _ _ _ ({ dst:=_,op:=Op.load 129 _,type:=_,pos:=_,after:=_,guard:=_ }::_) _ _);refine wpList_load_mid rfl 129 _ rfl BT 0 rfl LX dt HBT.out.r HTU.out HTD.out HTSI.out ?_)
        | fail)
       refine (HGO.out _ HK10.out).mono ?_
       rintro e11 w11 ⟨rfl,fr9,turn9,ov9,wv9,ev9,s9,hS9,hsw9,hse9,htu9,hop9,hol9,hT9,hk9⟩
       have HNX:Hid (∃(fr:Thr) (turn:Nat) (ov' wv' ev':Value) (s:Tn),StM w11 R g cap l hand fr turn gb ov' wv' ev' s∧s.wait=(((bs.take (i+1)).map (fun b:Nat=>newT (b:Int) hand)).foldl (goOnS l hand) C1).1∧s.ended=(((bs.take (i+1)).map (fun b:Nat=>newT (b:Int) hand)).foldl (goOnS l hand) C1).2∧turn≤ws.length+(i+1)∧(s.opn=[]∨overT s=true)∧s.opn.length≤20000+turn∧TnOk l.length s∧KR R gb w8 w11):=⟨fr9,turn9,ov9,wv9,ev9,s9,hS9,by rw [HTK.out];exact hsw9,by rw [HTK.out];exact hse9,by omega,hop9,hol9,hT9,(HKR.out.trans (KR.of_nw HK10.out)).trans hk9⟩
       clear hS9 hsw9 hse9 htu9 hop9 hol9 hT9 hk9 HGO HTK HBT
       go_wp2
       go_roundg (bs.length - (i+1))
       case measure=>rw [HM.out];omega
       case rel=>exact ⟨i+1,by simp,rfl,by omega,HNX.out⟩
     ·have hie:i=bs.length:=by omega
      subst hie
      rw [List.take_length] at HSW
      have HCF:Hid (s.wait=CF.1∧s.ended=CF.2):=by rw [HSTEP.out];exact HSW.out
      obtain ⟨ds,hdu,hdd⟩:=Option.map_eq_some_iff.1 Tryz.rowSt
      have HTU:Hid (Tryz.prog.underlying 134=some ds):=hdu
      have HTD:Hid (ds.isRow=true):=hdd
      obtain ⟨CL,HCL⟩:∃CL,Hid ((stpC (.slice (some ⟨g,0,none⟩) l.length cap) hand fr turn (.slice (some ⟨gb,0,none⟩) s.vis.length s.vis.length) ov' wv' s.wait.most s.wait.over ev' s.ended.most s.ended.over)=CL):=⟨_,rfl⟩
      have HRG:Hid (wr.rangeAt R 0 CL):=by show World.rangeAt _ _ _ _;rw [←HCL.out];exact HS.out.cells
      have HCLN:Hid (CL.length=43):=by show _=_;rw [←HCL.out];exact stpC_len _ _ _ _ _ _ _ _ _ _ _ _
      have HSI:Hid ((Tryz.prog.info? 134).map (·.size)=some CL.length):=by show _=_;rw [HCLN.out];exact Tryz.sizeSt
      have HSA:Hid ((Tryz.prog.info? 134).map (·.size)=some CL.toArray.size):=by show _=_;rw [List.size_toArray,HCLN.out];exact Tryz.sizeSt
      obtain ⟨op1,oc1,hov1⟩:=ownsLenX HS.out.own
      obtain ⟨wp1,wc1,hwv1⟩:=ownsLenX HS.out.wait.own
      obtain ⟨ep1,ec1,hev1⟩:=ownsLenX HS.out.ended.own
      have HON:Hid (∀v∈CL,v.oneCell'=true):=by rw [←HCL.out];exact stpC_one rfl rfl (by rw [hov1];rfl) (by rw [hwv1];rfl) (by rw [hev1];rfl) _ _ _ _ _ _ _
      have HTH4:Hid (wr.there (w.heap.size+1) 0 CL.toArray.size):=HBR4.out.there (by rw [stp0_len,List.size_toArray,HCLN.out])
      have HE4:Hid ((wr.setCells (w.heap.size+1) 0 CL).rangeAt (w.heap.size+1) 0 CL):=(HBR4.out.put (by rw [stp0_len,HCLN.out])).r
      have HKE:Hid (Kp (fun b=>b=w.heap.size+1) wr (wr.setCells (w.heap.size+1) 0 CL)):=kp_setCells _ _ _
      have HFIN:Hid (SoverPost w g cap l hand CF (.returned (.agg CL.toArray)) (wr.setCells (w.heap.size+1) 0 CL)):=by
       have kw:KR R gb w wr:=(KR.of_nw HKW8.out).trans HKR.out
       have hnb:∀b,R+1≤b→¬b=w.heap.size+1:=fun b hb e=>by omega
       refine ⟨fr,turn,_,ov',wv',ev',s,by rw [HCL.out],HCF.out.1,HCF.out.2,rfl,?_,?_,?_,HSO.out.2.2,?_⟩
       ·exact owns_baseP (owns_kp HS.out.wait.own HKE.out (fun b hb=>hnb b (HS.out.wait.own.lt b hb).1)) (by omega)
       ·exact owns_baseP (owns_kp HS.out.ended.own HKE.out (fun b hb=>hnb b (HS.out.ended.own.lt b hb).1)) (by omega)
       ·exact owns_baseP (owns_kp HS.out.own HKE.out (fun b hb=>hnb b (HS.out.own.lt b hb).1)) (by omega)
       ·exact (kw.mono (T:=fun _=>False) (fun b hb e=>by rcases e with e|e <;> omega)).trans' HKE.out (fun b hb e=>by omega)
      clear hdu hdd hov1 hwv1 hev1
      go_wp2_with (first
       | (with_reducible (show Go.wpList _ _ _ ({ dst:=_,op:=Op.load 134 _,type:=_,pos:=_,after:=_,guard:=_ }::_) _ _);refine wpList_load_mid rfl 134 _ rfl R 0 rfl CL ds HRG.out HTU.out HTD.out HSI.out ?_)
       | (with_reducible (show Go.wpList _ _ _ ({ dst:=_,op:=Op.store 134 _ _,type:=_,pos:=_,after:=_,guard:=_ }::_) _ _);refine wpList_store_mid rfl 134 _ _ rfl (w.heap.size+1) 0 CL.toArray rfl rfl HTH4.out HSA.out (all_oneCell_toArray HON.out) ?_)
       | fail)
      refine bodyPost_ret (results_cX Tryz.results54 _ _ _ ⟨w.heap.size+1,0,none⟩ rfl _ (load_st HCLN.out HE4.out)) rfl ?_
      exact HFIN.out
 ·go_simp
  refine hK.out _ _ (((Kp.refl _ _).alloc _).drew) (fun _ => ?_)
  clear hK K
  try simp only [Act.put,sA,sZ,sS]
  have HBR:Hid (Bx (w5.alloc (.cells #[slice none 0 0,int i64 0,int i64 0,int i64 0,int i64 0,int i64 0,int i64 0,int i64 0,int i64 0,int i64 0,int i64 0,int i64 0,int i64 0,int i64 0,int i64 0,int i64 0,int i64 0,int i64 0,int i64 0,int i64 0,int i64 0,int i64 0,int i64 0,int i64 0,int i64 0,int i64 0,int i64 0,int i64 0,int i64 0,int i64 0,int i64 0,int i64 0,int i64 0,int i64 0,int i64 0,slice none 0 0,slice none 0 0,slice none 0 0,int i64 0,bool false,slice none 0 0,int i64 0,bool false] 134)).drew w5.heap.size stp0):=by
   have hnew:=Bx.new w5 stp0 134
   rw [zerosSt] at hnew
   exact hnew.kp (by rw [stp0_len];omega) ((Kp.refl (fun _=>False) _).drew) (fun h=>h)
  have HKA:Hid (Nw w5 (w5.alloc (.cells #[slice none 0 0,int i64 0,int i64 0,int i64 0,int i64 0,int i64 0,int i64 0,int i64 0,int i64 0,int i64 0,int i64 0,int i64 0,int i64 0,int i64 0,int i64 0,int i64 0,int i64 0,int i64 0,int i64 0,int i64 0,int i64 0,int i64 0,int i64 0,int i64 0,int i64 0,int i64 0,int i64 0,int i64 0,int i64 0,int i64 0,int i64 0,int i64 0,int i64 0,int i64 0,int i64 0,slice none 0 0,slice none 0 0,slice none 0 0,int i64 0,bool false,slice none 0 0,int i64 0,bool false] 134)).drew):=((Kp.refl _ _).alloc _).drew
  have hsA:((w5.alloc (.cells #[slice none 0 0,int i64 0,int i64 0,int i64 0,int i64 0,int i64 0,int i64 0,int i64 0,int i64 0,int i64 0,int i64 0,int i64 0,int i64 0,int i64 0,int i64 0,int i64 0,int i64 0,int i64 0,int i64 0,int i64 0,int i64 0,int i64 0,int i64 0,int i64 0,int i64 0,int i64 0,int i64 0,int i64 0,int i64 0,int i64 0,int i64 0,int i64 0,int i64 0,int i64 0,int i64 0,slice none 0 0,slice none 0 0,slice none 0 0,int i64 0,bool false,slice none 0 0,int i64 0,bool false] 134)).drew).heap.size=w5.heap.size+1:=by simp
  refine wpAnyH_ready (rs:=[9]) (by kernel_rfl) (by simp) ?_
  refine consL rfl (fun K hK => ?_) AllReadyH.nil
  go_simp
  refine (HNS.out _).mono ?_
  rintro e7 w7 ⟨gb,rfl,hrow7,hgb7,k7⟩
  rw [hsA] at hgb7
  have k8:Nw w5 w7:=HKA.out.trans k7
  try dsimp only
  refine hK.out _ _ k8 (fun _ => ?_)
  clear hK K
  try simp only [Act.put,sA,sZ,sS]
  have HRW7:Hid (Row w7 gb 3 (intsV (List.replicate (16*l.length) 0))):=hrow7
  have hgb5:w5.heap.size≤gb:=by omega
  have hgbR:¬gb=w5.heap.size:=by omega
  have HK7:Hid (Nw w5 w7):=k8
  have h57:w5.heap.size≤w7.heap.size:=k8.size
  have HBR7:Hid (Bx w7 w5.heap.size stp0):=HBR.out.kp (by rw [stp0_len];omega) k7 (fun h=>h)
  have HB8:Hid (Bx (w7.setCells w5.heap.size 0 (stpC (.slice (some ⟨g,0,none⟩) l.length cap) hand th0 0 (.slice (some ⟨gb,0,none⟩) (16*l.length) (16*l.length)) (.slice none 0 0) (.slice none 0 0) live false (.slice none 0 0) found false)) w5.heap.size (stpC (.slice (some ⟨g,0,none⟩) l.length cap) hand th0 0 (.slice (some ⟨gb,0,none⟩) (16*l.length) (16*l.length)) (.slice none 0 0) (.slice none 0 0) live false (.slice none 0 0) found false)):=HBR7.out.put (by rw [stp0_len,stpC_len])
  have HTH8:Hid (w7.there w5.heap.size 0 (stpC (.slice (some ⟨g,0,none⟩) l.length cap) hand th0 0 (.slice (some ⟨gb,0,none⟩) (16*l.length) (16*l.length)) (.slice none 0 0) (.slice none 0 0) live false (.slice none 0 0) found false).toArray.size):=HBR7.out.there (by rw [stp0_len,List.size_toArray,stpC_len])
  have HKB:Hid (Kp (fun b=>b=w5.heap.size) w7 (w7.setCells w5.heap.size 0 (stpC (.slice (some ⟨g,0,none⟩) l.length cap) hand th0 0 (.slice (some ⟨gb,0,none⟩) (16*l.length) (16*l.length)) (.slice none 0 0) (.slice none 0 0) live false (.slice none 0 0) found false))):=kp_setCells _ _ _
  have HK8:Hid (Nw w5 (w7.setCells w5.heap.size 0 (stpC (.slice (some ⟨g,0,none⟩) l.length cap) hand th0 0 (.slice (some ⟨gb,0,none⟩) (16*l.length) (16*l.length)) (.slice none 0 0) (.slice none 0 0) live false (.slice none 0 0) found false))):=HK7.out.trans' HKB.out (by intro b hb e;omega)
  have HSZ:Hid ((Tryz.prog.info? 134).map (·.size)=some (stpC (.slice (some ⟨g,0,none⟩) l.length cap) hand th0 0 (.slice (some ⟨gb,0,none⟩) (16*l.length) (16*l.length)) (.slice none 0 0) (.slice none 0 0) live false (.slice none 0 0) found false).toArray.size):=by show _=_;rw [List.size_toArray,stpC_len];exact Tryz.sizeSt
  have HON:Hid (∀v∈(stpC (.slice (some ⟨g,0,none⟩) l.length cap) hand th0 0 (.slice (some ⟨gb,0,none⟩) (16*l.length) (16*l.length)) (.slice none 0 0) (.slice none 0 0) live false (.slice none 0 0) found false),v.oneCell'=true):=stpC_one rfl rfl rfl rfl rfl _ _ _ _ _ _ _
  clear hrow7 hgb7 k7 hsA
  refine wpAnyH_ready (rs:=[11]) (by kernel_rfl) (by simp) ?_
  refine consL rfl (fun K hK => ?_) AllReadyH.nil
  rw [if_pos (by rfl)]
  refine wp_store_mid 134 _ _ rfl w5.heap.size 0 (stpC (.slice (some ⟨g,0,none⟩) l.length cap) hand th0 0 (.slice (some ⟨gb,0,none⟩) (16*l.length) (16*l.length)) (.slice none 0 0) (.slice none 0 0) live false (.slice none 0 0) found false).toArray rfl rfl HTH8.out HSZ.out (all_oneCell_toArray HON.out) ?_
  refine hK.out _ _ HK8.out (fun _ => ?_)
  clear hK K
  try simp only [Act.put,sA,sZ,sS]
  refine wpAnyH_done (by kernel_rfl) ?_ _
  clear hHeld t1 t2 k8 HNS HTH8 HSZ HON
  have HINIT:Hid (StM (w7.setCells w5.heap.size 0 (stpC (.slice (some ⟨g,0,none⟩) l.length cap) hand th0 0 (.slice (some ⟨gb,0,none⟩) (16*l.length) (16*l.length)) (.slice none 0 0) (.slice none 0 0) live false (.slice none 0 0) found false)) w5.heap.size g cap l hand th0 0 gb (.slice none 0 0) (.slice none 0 0) (.slice none 0 0) ⟨List.replicate (16*l.length) true,[],⟨[],live,false⟩,⟨[],found,false⟩⟩):=by
   have hk:Nw w (w7.setCells w5.heap.size 0 (stpC (.slice (some ⟨g,0,none⟩) l.length cap) hand th0 0 (.slice (some ⟨gb,0,none⟩) (16*l.length) (16*l.length)) (.slice none 0 0) (.slice none 0 0) live false (.slice none 0 0) found false)):=HK5W.out.trans HK8.out
   have hgw:=H.out.code.lt
   exact StM.init HB8.out (H.out.code.kp hk (fun h=>h)) (HRW7.out.kp HKB.out hgbR) (by omega) hgbR (by omega)
  have HKW8:Hid (Nw w (w7.setCells w5.heap.size 0 (stpC (.slice (some ⟨g,0,none⟩) l.length cap) hand th0 0 (.slice (some ⟨gb,0,none⟩) (16*l.length) (16*l.length)) (.slice none 0 0) (.slice none 0 0) live false (.slice none 0 0) found false))):=HK5W.out.trans HK8.out
  have HB58:Hid (Bx (w7.setCells w5.heap.size 0 (stpC (.slice (some ⟨g,0,none⟩) l.length cap) hand th0 0 (.slice (some ⟨gb,0,none⟩) (16*l.length) (16*l.length)) (.slice none 0 0) (.slice none 0 0) live false (.slice none 0 0) found false)) w4.heap.size (nmC hand)):=HB5.out.kp (by rw [nmC_len];omega) HK8.out (fun h=>h)
  have HB48:Hid (Bx (w7.setCells w5.heap.size 0 (stpC (.slice (some ⟨g,0,none⟩) l.length cap) hand th0 0 (.slice (some ⟨gb,0,none⟩) (16*l.length) (16*l.length)) (.slice none 0 0) (.slice none 0 0) live false (.slice none 0 0) found false)) (w.heap.size+1) stp0):=HB4.out.kp (by rw [stp0_len];omega) (HK5.out.trans HK8.out) (fun h=>h)
  have hs8:w5.heap.size<((w7.setCells w5.heap.size 0 (stpC (.slice (some ⟨g,0,none⟩) l.length cap) hand th0 0 (.slice (some ⟨gb,0,none⟩) (16*l.length) (16*l.length)) (.slice none 0 0) (.slice none 0 0) live false (.slice none 0 0) found false))).heap.size:=HB8.out.lt (by rw [stpC_len];omega)
  clear HB8 HK8 HRW7 HKB HBR7 HBR HKA
  generalize (w7.setCells w5.heap.size 0 (stpC (.slice (some ⟨g,0,none⟩) l.length cap) hand th0 0 (.slice (some ⟨gb,0,none⟩) (16*l.length) (16*l.length)) (.slice none 0 0) (.slice none 0 0) live false (.slice none 0 0) found false))=w8 at *
  obtain ⟨R,hR⟩:∃R,R=w5.heap.size:=⟨_,rfl⟩
  rw [←hR] at HINIT hs8 hgbR
  have h57':w5.heap.size≤R:=by omega
  rw [←hR]
  have HRE:Hid (R=w5.heap.size):=hR
  clear hR HK7
  have HRUN:Hid (∀W,KR R gb w8 W→RunM W A sc live found g cap l bv bs wv ws count last spent∧Bx W w4.heap.size (nmC hand)∧Bx W (w.heap.size+1) stp0∧A<W.heap.size):=by
   intro W kW
   have k1:KR R gb w W:=(KR.of_nw HKW8.out).trans kW
   have hw8:w4.heap.size<w8.heap.size:=by omega
   exact ⟨H.out.kp k1 (fun b hb=>by show ¬(R≤b∨b=gb);omega),HB58.out.kp (by rw [nmC_len];omega) kW (by show ¬(R≤w4.heap.size∨w4.heap.size=gb);omega),HB48.out.kp (by rw [stp0_len];omega) kW (by show ¬(R≤w.heap.size+1∨w.heap.size+1=gb);omega),by have:=kW.size;omega⟩
  have HIO:Hid (∀x∈l,InOk x):=hI
  have HWK:Hid (∀u∈ws,TOk u):=hwk
  have HBL:Hid (∀b∈bs,b<l.length):=hbl
  clear hI hwk hbl HB58 HB48 HB5 HB3 HB4
  go_wp2
  go_loopg [7] ws.length (fun m v7 wr=>∃i:Nat,v7=.int .i64 i∧m=ws.length - i∧i≤ws.length∧(∃(fr:Thr) (turn:Nat) (ov' wv' ev':Value) (s:Tn),StM wr R g cap l hand fr turn gb ov' wv' ev' s∧s.wait=((ws.take i).foldl (goOnS l hand) ((⟨[],live,false⟩:Crw),(⟨[],found,false⟩:Crw))).1∧s.ended=((ws.take i).foldl (goOnS l hand) ((⟨[],live,false⟩:Crw),(⟨[],found,false⟩:Crw))).2∧turn≤i∧(s.opn=[]∨overT s=true)∧s.opn.length≤20000+turn∧TnOk l.length s∧KR R gb w8 wr))
  case atStart=>exact ⟨0,rfl,rfl,by omega,th0,0,_,_,_,_,HINIT.out,rfl,rfl,Nat.le_refl _,Or.inl rfl,by simp,⟨⟨hlv,by simp,by simp⟩,⟨hfd,by simp,by simp⟩,by simp,by simp⟩,Kp.refl _ _⟩
  case round =>
   obtain ⟨i,rfl,hm,hi,fr,turn,ov',wv',ev',s,hS,hsw,hse,htu,hop,hol,hT,hkr⟩:=hrel
   have HM:Hid (_=ws.length - i):=hm
   have HS:Hid (StM wr R g cap l hand fr turn gb ov' wv' ev' s):=hS
   have HSW:Hid (s.wait=((ws.take i).foldl (goOnS l hand) ((⟨[],live,false⟩:Crw),(⟨[],found,false⟩:Crw))).1∧s.ended=((ws.take i).foldl (goOnS l hand) ((⟨[],live,false⟩:Crw),(⟨[],found,false⟩:Crw))).2):=⟨hsw,hse⟩
   have HSO:Hid ((s.opn=[]∨overT s=true)∧s.opn.length≤20000+turn∧TnOk l.length s):=⟨hop,hol,hT⟩
   have HKR:Hid (KR R gb w8 wr):=hkr
   obtain ⟨hrun,hbn,hbr,hAr⟩:=HRUN.out wr hkr
   have q9:=hrun.wt
   have HRUNR:Hid (RunM wr A sc live found g cap l bv bs wv ws count last spent):=hrun
   obtain ⟨wp,wcc,hwve⟩:=ownsLenX hrun.wo
   clear hm hS hsw hse hop hol hT hkr hrun hbn hbr HINIT
   subst hwve
   by_cases hil:i<ws.length
   ·obtain ⟨u,hu⟩:∃u,ws[i]? = some u:=⟨_,List.getElem?_eq_getElem hil⟩
    obtain ⟨gw,cw,hgw⟩:=owns_some HRUNR.out.wo (by omega)
    simp only [Value.slice.injEq,true_and] at hgw
    obtain ⟨rfl,rfl⟩:=hgw
    have HU:Hid (ws[i]? = some u):=hu
    have HR27:Hid (wr.rangeAt gw (i*27) (thC u)):=owns_rangeT HRUNR.out.wo hu
    have hgwl:gw<wr.heap.size:=(HRUNR.out.wo.lt gw rfl).2
    obtain ⟨dt,hdu,hdd⟩:=Option.map_eq_some_iff.1 Tryz.rowTh
    have HTU:Hid (Tryz.prog.underlying 129=some dt):=hdu
    have HTD:Hid (dt.isRow=true):=hdd
    have HGO:Hid (Calls Tryz.prog 85 #[.pointer (some ⟨R,0,none⟩),.agg (thC u).toArray] wr (GoPost wr R g cap l hand gb turn (goOnS l hand (s.wait,s.ended) u))):=goOnT_any R g cap l hand fr turn gb ov' wv' ev' s u wr HS.out HSO.out.2.2 HSO.out.1 HSO.out.2.1 (by omega) (HWK.out u (List.mem_of_getElem? hu)) hn hA HIO.out hok ht1
    have HSI:Hid ((Tryz.prog.info? 129).map (·.size)=some (thC u).length):=size_th u
    have HTK:Hid ((ws.take (i+1)).foldl (goOnS l hand) ((⟨[],live,false⟩:Crw),(⟨[],found,false⟩:Crw))=goOnS l hand (s.wait,s.ended) u):=by
     show _=_
     rw [List.take_add_one,hu,Option.toList_some,List.foldl_append,HSW.out.1,HSW.out.2]
     rfl
    clear hu hdu hdd
    generalize thC u=LU at *
    go_wp2_with (first
     | (with_reducible (show Go.wpList _ _ _ ({ dst:=_,op:=Op.load 129 _,type:=_,pos:=_,after:=_,guard:=_ }::_) _ _);refine wpList_load_mid rfl 129 _ rfl gw (i*27) (by simp [go_sem]) LU dt HR27.out HTU.out HTD.out HSI.out ?_)
     | fail)
    refine HGO.out.mono ?_
    rintro e9 w9 ⟨rfl,fr9,turn9,ov9,wv9,ev9,s9,hS9,hsw9,hse9,htu9,hop9,hol9,hT9,hk9⟩
    have HNX:Hid (∃(fr:Thr) (turn:Nat) (ov' wv' ev':Value) (s:Tn),StM w9 R g cap l hand fr turn gb ov' wv' ev' s∧s.wait=((ws.take (i+1)).foldl (goOnS l hand) ((⟨[],live,false⟩:Crw),(⟨[],found,false⟩:Crw))).1∧s.ended=((ws.take (i+1)).foldl (goOnS l hand) ((⟨[],live,false⟩:Crw),(⟨[],found,false⟩:Crw))).2∧turn≤(i+1)∧(s.opn=[]∨overT s=true)∧s.opn.length≤20000+turn∧TnOk l.length s∧KR R gb w8 w9):=⟨fr9,turn9,ov9,wv9,ev9,s9,hS9,by rw [HTK.out];exact hsw9,by rw [HTK.out];exact hse9,by omega,hop9,hol9,hT9,HKR.out.trans hk9⟩
    clear hS9 hsw9 hse9 htu9 hop9 hol9 hT9 hk9 q9 HGO HTK HR27
    go_wp2
    go_roundg (ws.length - (i+1))
    case measure=>rw [HM.out];omega
    case rel=>exact ⟨i+1,by simp,rfl,by omega,HNX.out⟩
   ·have hie:i=ws.length:=by omega
    subst hie
    rw [List.take_length] at HSW
    have HL1:Hid (∃(fr:Thr) (turn:Nat) (ov' wv' ev':Value) (s:Tn),StM wr R g cap l hand fr turn gb ov' wv' ev' s∧s.wait=(ws.foldl (goOnS l hand) ((⟨[],live,false⟩:Crw),(⟨[],found,false⟩:Crw))).1∧s.ended=(ws.foldl (goOnS l hand) ((⟨[],live,false⟩:Crw),(⟨[],found,false⟩:Crw))).2∧turn≤ws.length+0∧(s.opn=[]∨overT s=true)∧s.opn.length≤20000+turn∧TnOk l.length s∧KR R gb w8 wr):=⟨fr,turn,ov',_,ev',s,HS.out,HSW.out.1,HSW.out.2,by omega,HSO.out.1,HSO.out.2.1,HSO.out.2.2,HKR.out⟩
    have HSTEP:Hid (stepS l hand ws bs live found=(bs.map (fun b:Nat=>newT (b:Int) hand)).foldl (goOnS l hand) (ws.foldl (goOnS l hand) ((⟨[],live,false⟩:Crw),(⟨[],found,false⟩:Crw)))):=rfl
    generalize ws.foldl (goOnS l hand) ((⟨[],live,false⟩:Crw),(⟨[],found,false⟩:Crw))=C1 at *
    generalize stepS l hand ws bs live found=CF at *
    clear HS HSW HSO HKR HRUNR HM
    go_wp2
    go_loopg [8] bs.length (fun m v8 wr=>∃i:Nat,v8=.int .i64 i∧m=bs.length - i∧i≤bs.length∧(∃(fr:Thr) (turn:Nat) (ov' wv' ev':Value) (s:Tn),StM wr R g cap l hand fr turn gb ov' wv' ev' s∧s.wait=(((bs.take i).map (fun b:Nat=>newT (b:Int) hand)).foldl (goOnS l hand) C1).1∧s.ended=(((bs.take i).map (fun b:Nat=>newT (b:Int) hand)).foldl (goOnS l hand) C1).2∧turn≤ws.length+i∧(s.opn=[]∨overT s=true)∧s.opn.length≤20000+turn∧TnOk l.length s∧KR R gb w8 wr))
    case atStart=>exact ⟨0,rfl,rfl,by omega,HL1.out⟩
    case round =>
     obtain ⟨i,rfl,hm,hi,fr,turn,ov',wv',ev',s,hS,hsw,hse,htu,hop,hol,hT,hkr⟩:=hrel
     have HM:Hid (_=bs.length - i):=hm
     have HS:Hid (StM wr R g cap l hand fr turn gb ov' wv' ev' s):=hS
     have HSW:Hid (s.wait=(((bs.take i).map (fun b:Nat=>newT (b:Int) hand)).foldl (goOnS l hand) C1).1∧s.ended=(((bs.take i).map (fun b:Nat=>newT (b:Int) hand)).foldl (goOnS l hand) C1).2):=⟨hsw,hse⟩
     have HSO:Hid ((s.opn=[]∨overT s=true)∧s.opn.length≤20000+turn∧TnOk l.length s):=⟨hop,hol,hT⟩
     have HKR:Hid (KR R gb w8 wr):=hkr
     obtain ⟨hrun,hbn,hbr,hAr⟩:=HRUN.out wr hkr
     have q8:=hrun.bg
     have HRUNR:=hrun.bo
     have HBO:Hid (wr.ownsRow 0 3 1 bv bs.length (intsV bs)):=HRUNR
     have HBN:Hid (Bx wr w4.heap.size (nmC hand)):=hbn
     have HBR4:Hid (Bx wr (w.heap.size+1) stp0):=hbr
     obtain ⟨bp,bcc,hbve⟩:=ownsLenX hrun.bo
     clear hm hS hsw hse hop hol hT hkr hrun hbn hbr HL1 HRUNR
     subst hbve
     have hRr:R<wr.heap.size:=HS.out.lt
     by_cases hil:i<bs.length
     ·obtain ⟨b,hb'⟩:∃b,bs[i]? = some b:=⟨_,List.getElem?_eq_getElem hil⟩
      obtain ⟨gw,cw,hgw⟩:=owns_some HBO.out (by omega)
      simp only [Value.slice.injEq,true_and] at hgw
      obtain ⟨rfl,rfl⟩:=hgw
      have u1:∀W,Nw wr W→W.cell? ⟨A,8,none⟩=some (.slice (some ⟨gw,0,none⟩) bs.length bcc):=fun W kW=>(kW.cell (p:=⟨A,8,none⟩) hAr (fun h=>h)).trans q8
      have u2:∀W,Nw wr W→W.cell? ⟨gw,i,none⟩=some (.int .i64 (b:Int)):=fun W kW=>owns_cell (owns_kp HBO.out kW (fun _ _ h=>h)) i (intsV_get hb')
      have hgwl:gw<wr.heap.size:=(HBO.out.lt gw rfl).2
      obtain ⟨dt,hdu,hdd⟩:=Option.map_eq_some_iff.1 Tryz.rowTh
      have HTU:Hid (Tryz.prog.underlying 129=some dt):=hdu
      have HTD:Hid (dt.isRow=true):=hdd
      have hbL:b<l.length:=HBL.out b (List.mem_of_getElem? hb')
      have HTOK:TOk (newT (b:Int) hand):=newT_ok hok ht1 (by omega)
      have HNT:Hid (∀W,Calls Tryz.prog 86 #[.int .i64 (b:Int),.agg (nmC hand).toArray] W fun r w'=>r=.returned (.agg (thC (newT (b:Int) hand)).toArray)∧Nw W w'):=fun W=>newThread_any (b:Int) hand W
      have HGO:Hid (∀W,Nw wr W→Calls Tryz.prog 85 #[.pointer (some ⟨R,0,none⟩),.agg (thC (newT (b:Int) hand)).toArray] W (GoPost W R g cap l hand gb turn (goOnS l hand (s.wait,s.ended) (newT (b:Int) hand)))):=fun W kW=>goOnT_any R g cap l hand fr turn gb ov' wv' ev' s _ W (HS.out.nw kW) HSO.out.2.2 HSO.out.1 HSO.out.2.1 (by omega) HTOK hn hA HIO.out hok ht1
      have HTSI:Hid ((Tryz.prog.info? 129).map (·.size)=some (thC (newT (b:Int) hand)).length):=size_th _
      have HTSA:Hid ((Tryz.prog.info? 129).map (·.size)=some (thC (newT (b:Int) hand)).toArray.size):=size_thA _
      have HTON:Hid (∀v∈thC (newT (b:Int) hand),v.oneCell'=true):=thC_one _
      have HTLN:Hid ((thC (newT (b:Int) hand)).length=27):=thC_len _
      have HTK:Hid (((bs.take (i+1)).map (fun b:Nat=>newT (b:Int) hand)).foldl (goOnS l hand) C1=goOnS l hand (s.wait,s.ended) (newT (b:Int) hand)):=by
       show _=_
       rw [List.take_add_one,hb',Option.toList_some,List.map_append,List.foldl_append,HSW.out.1,HSW.out.2]
       rfl
      clear hb' hdu hdd HTOK
      generalize thC (newT (b:Int) hand)=LX at *
      go_wp2
      refine wp_region_held_drew (S:=fun W=>Nw wr W) (by kernel_rfl) ((Kp.refl _ _).drew) (fun hHeld => ?_)
      refine tM 0 rfl (fun W hSW=>by (try dsimp only at hSW);go_simp;rw []) hHeld ?_
      refine tM 1 rfl (fun W hSW=>by (try dsimp only at hSW);go_simp;rw []) hHeld ?_
      refine tM 2 rfl (fun W hSW=>by (try dsimp only at hSW);go_simp;rw []) hHeld ?_
      refine tM 3 rfl (fun W hSW=>by (try dsimp only at hSW);go_simp;rw []) hHeld ?_
      refine tM 4 rfl (fun W hSW=>by (try dsimp only at hSW);go_simp;rw []) hHeld ?_
      refine tM 5 rfl (fun W hSW=>by (try dsimp only at hSW);go_simp;rw []) hHeld ?_
      refine tM 6 rfl (fun W hSW=>by (try dsimp only at hSW);go_simp;rw []) hHeld ?_
      refine tN (i:=7) (v:=_) rfl (yieldsIf_load_mid (by rfl) 126 _ rfl w4.heap.size (0) rfl (nmC hand) dn (fun W kW=>(HBN.out.kp (by rw [nmC_len];omega) kW (fun h=>h)).r) HDU.out HDD.out (size_nm hand)) hHeld ?_
      clear u1 u2
      refine wpAnyH_ready (rs:=[8,9]) (by kernel_rfl) (by simp) ?_
      refine consL rfl (fun K hK => ?_) (consL rfl (fun K hK => ?_) AllReadyH.nil)
      ·go_simp
       refine (HNT.out _).mono ?_
       rintro e9 w9 ⟨rfl,k9⟩
       have k10:Nw wr w9:=((Kp.refl _ _).drew).trans k9
       try dsimp only
       refine hK.out _ _ k10 (fun _ => ?_)
       clear hK K
       try simp only [Act.put,sA,sZ,sS]
       have HBT:Hid (Bx ((w9.alloc (.cells #[int i64 0,int i64 0,int i64 0,int i64 0,int i64 0,int i64 0,int i64 0,int i64 0,int i64 0,int i64 0,int i64 0,int i64 0,int i64 0,int i64 0,int i64 0,int i64 0,int i64 0,int i64 0,int i64 0,int i64 0,int i64 0,int i64 0,int i64 0,int i64 0,int i64 0,int i64 0,int i64 0] 129)).setCells w9.heap.size 0 LX) w9.heap.size LX):=by
        have hnew:=Bx.new w9 (thC th0) 129
        rw [zerosTh] at hnew
        exact hnew.put (by rw [thC_len,HTLN.out])
       have HTT:Hid ((w9.alloc (.cells #[int i64 0,int i64 0,int i64 0,int i64 0,int i64 0,int i64 0,int i64 0,int i64 0,int i64 0,int i64 0,int i64 0,int i64 0,int i64 0,int i64 0,int i64 0,int i64 0,int i64 0,int i64 0,int i64 0,int i64 0,int i64 0,int i64 0,int i64 0,int i64 0,int i64 0,int i64 0,int i64 0] 129)).there w9.heap.size 0 LX.toArray.size):=by
        have hnew:=Bx.new w9 (thC th0) 129
        rw [zerosTh] at hnew
        exact hnew.there (by rw [thC_len,List.size_toArray,HTLN.out])
       have HK10:Hid (Nw wr ((w9.alloc (.cells #[int i64 0,int i64 0,int i64 0,int i64 0,int i64 0,int i64 0,int i64 0,int i64 0,int i64 0,int i64 0,int i64 0,int i64 0,int i64 0,int i64 0,int i64 0,int i64 0,int i64 0,int i64 0,int i64 0,int i64 0,int i64 0,int i64 0,int i64 0,int i64 0,int i64 0,int i64 0,int i64 0] 129)).setCells w9.heap.size 0 LX)):=(k10.alloc _).trans' (kp_setCells _ 0 _) (by intro b hb e;have:=k10.size;omega)
       refine wpAnyH_ready (rs:=[9]) (by kernel_rfl) (by simp) ?_
       refine consL rfl (fun K hK => ?_) AllReadyH.nil
       go_simp
       refine hK.out _ _ (k10.alloc _) (fun _ => ?_)
       clear hK K
       try simp only [Act.put,sA,sZ,sS]
       refine wpAnyH_ready (rs:=[10]) (by kernel_rfl) (by simp) ?_
       refine consL rfl (fun K hK => ?_) AllReadyH.nil
       rw [if_pos (by rfl)]
       refine wp_store_mid 129 _ _ rfl w9.heap.size 0 LX.toArray rfl rfl HTT.out HTSA.out (all_oneCell_toArray HTON.out) ?_
       refine hK.out _ _ HK10.out (fun _ => ?_)
       clear hK K
       try simp only [Act.put,sA,sZ,sS]
       refine wpAnyH_done (by kernel_rfl) ?_ _
       clear hHeld k9 k10 HTT HNT
       generalize ((w9.alloc (.cells #[int i64 0,int i64 0,int i64 0,int i64 0,int i64 0,int i64 0,int i64 0,int i64 0,int i64 0,int i64 0,int i64 0,int i64 0,int i64 0,int i64 0,int i64 0,int i64 0,int i64 0,int i64 0,int i64 0,int i64 0,int i64 0,int i64 0,int i64 0,int i64 0,int i64 0,int i64 0,int i64 0] 129)).setCells w9.heap.size 0 LX)=w10 at *
       generalize w9.heap.size=BT at *
       have hbt:BT<w10.heap.size:=HBT.out.lt (by rw [HTLN.out];omega)
       go_wp2_with (first
        | (with_reducible (show Go.wpList _ _ _ ({ dst:=_,op:=Op.load 129 _,type:=_,pos:=_,after:=_,guard:=_ }::_) _ _);refine wpList_load_mid rfl 129 _ rfl BT 0 rfl LX dt HBT.out.r HTU.out HTD.out HTSI.out ?_)
        | fail)
       refine (HGO.out _ HK10.out).mono ?_
       rintro e11 w11 ⟨rfl,fr9,turn9,ov9,wv9,ev9,s9,hS9,hsw9,hse9,htu9,hop9,hol9,hT9,hk9⟩
       have HNX:Hid (∃(fr:Thr) (turn:Nat) (ov' wv' ev':Value) (s:Tn),StM w11 R g cap l hand fr turn gb ov' wv' ev' s∧s.wait=(((bs.take (i+1)).map (fun b:Nat=>newT (b:Int) hand)).foldl (goOnS l hand) C1).1∧s.ended=(((bs.take (i+1)).map (fun b:Nat=>newT (b:Int) hand)).foldl (goOnS l hand) C1).2∧turn≤ws.length+(i+1)∧(s.opn=[]∨overT s=true)∧s.opn.length≤20000+turn∧TnOk l.length s∧KR R gb w8 w11):=⟨fr9,turn9,ov9,wv9,ev9,s9,hS9,by rw [HTK.out];exact hsw9,by rw [HTK.out];exact hse9,by omega,hop9,hol9,hT9,(HKR.out.trans (KR.of_nw HK10.out)).trans hk9⟩
       clear hS9 hsw9 hse9 htu9 hop9 hol9 hT9 hk9 HGO HTK HBT
       go_wp2
       go_roundg (bs.length - (i+1))
       case measure=>rw [HM.out];omega
       case rel=>exact ⟨i+1,by simp,rfl,by omega,HNX.out⟩
      ·go_simp
       refine hK.out _ _ (((Kp.refl _ _).alloc _).drew) (fun _ => ?_)
       clear hK K
       try simp only [Act.put,sA,sZ,sS]
       have HBA:Hid (Bx (wr.alloc (.cells #[int i64 0,int i64 0,int i64 0,int i64 0,int i64 0,int i64 0,int i64 0,int i64 0,int i64 0,int i64 0,int i64 0,int i64 0,int i64 0,int i64 0,int i64 0,int i64 0,int i64 0,int i64 0,int i64 0,int i64 0,int i64 0,int i64 0,int i64 0,int i64 0,int i64 0,int i64 0,int i64 0] 129)).drew wr.heap.size (thC th0)):=by
        have hnew:=Bx.new wr (thC th0) 129
        rw [zerosTh] at hnew
        exact hnew.kp (by rw [thC_len];omega) ((Kp.refl (fun _=>False) _).drew) (fun h=>h)
       refine wpAnyH_ready (rs:=[8]) (by kernel_rfl) (by simp) ?_
       refine consL rfl (fun K hK => ?_) AllReadyH.nil
       go_simp
       refine (HNT.out _).mono ?_
       rintro e9 w9 ⟨rfl,k9⟩
       have k10:Nw wr w9:=(((Kp.refl _ _).alloc _).drew).trans k9
       try dsimp only
       refine hK.out _ _ k10 (fun _ => ?_)
       clear hK K
       try simp only [Act.put,sA,sZ,sS]
       have HBA9:Hid (Bx w9 wr.heap.size (thC th0)):=HBA.out.kp (by rw [thC_len];omega) k9 (fun h=>h)
       have HBT:Hid (Bx (w9.setCells wr.heap.size 0 LX) wr.heap.size LX):=HBA9.out.put (by rw [thC_len,HTLN.out])
       have HTT:Hid (w9.there wr.heap.size 0 LX.toArray.size):=HBA9.out.there (by rw [thC_len,List.size_toArray,HTLN.out])
       have HK10:Hid (Nw wr (w9.setCells wr.heap.size 0 LX)):=k10.trans' (kp_setCells _ 0 _) (by intro b hb e;omega)
       refine wpAnyH_ready (rs:=[10]) (by kernel_rfl) (by simp) ?_
       refine consL rfl (fun K hK => ?_) AllReadyH.nil
       rw [if_pos (by rfl)]
       refine wp_store_mid 129 _ _ rfl wr.heap.size 0 LX.toArray rfl rfl HTT.out HTSA.out (all_oneCell_toArray HTON.out) ?_
       refine hK.out _ _ HK10.out (fun _ => ?_)
       clear hK K
       try simp only [Act.put,sA,sZ,sS]
       refine wpAnyH_done (by kernel_rfl) ?_ _
       clear hHeld k9 k10 HTT HNT HBA HBA9
       generalize (w9.setCells wr.heap.size 0 LX)=w10 at *
       obtain ⟨BT,hBTe⟩:∃BT,BT=wr.heap.size:=⟨_,rfl⟩
       rw [←hBTe] at HBT
       rw [←hBTe]
       clear hBTe
       have hbt:BT<w10.heap.size:=HBT.out.lt (by rw [HTLN.out];omega)
       go_wp2_with (first
        | (with_reducible (show Go.wpList _ _ _ ({ dst:=_,op:=Op.load 129 _,type:=_,pos:=_,after:=_,guard:=_ }::_) _ _);refine wpList_load_mid rfl 129 _ rfl BT 0 rfl LX dt HBT.out.r HTU.out HTD.out HTSI.out ?_)
        | fail)
       refine (HGO.out _ HK10.out).mono ?_
       rintro e11 w11 ⟨rfl,fr9,turn9,ov9,wv9,ev9,s9,hS9,hsw9,hse9,htu9,hop9,hol9,hT9,hk9⟩
       have HNX:Hid (∃(fr:Thr) (turn:Nat) (ov' wv' ev':Value) (s:Tn),StM w11 R g cap l hand fr turn gb ov' wv' ev' s∧s.wait=(((bs.take (i+1)).map (fun b:Nat=>newT (b:Int) hand)).foldl (goOnS l hand) C1).1∧s.ended=(((bs.take (i+1)).map (fun b:Nat=>newT (b:Int) hand)).foldl (goOnS l hand) C1).2∧turn≤ws.length+(i+1)∧(s.opn=[]∨overT s=true)∧s.opn.length≤20000+turn∧TnOk l.length s∧KR R gb w8 w11):=⟨fr9,turn9,ov9,wv9,ev9,s9,hS9,by rw [HTK.out];exact hsw9,by rw [HTK.out];exact hse9,by omega,hop9,hol9,hT9,(HKR.out.trans (KR.of_nw HK10.out)).trans hk9⟩
       clear hS9 hsw9 hse9 htu9 hop9 hol9 hT9 hk9 HGO HTK HBT
       go_wp2
       go_roundg (bs.length - (i+1))
       case measure=>rw [HM.out];omega
       case rel=>exact ⟨i+1,by simp,rfl,by omega,HNX.out⟩
     ·have hie:i=bs.length:=by omega
      subst hie
      rw [List.take_length] at HSW
      have HCF:Hid (s.wait=CF.1∧s.ended=CF.2):=by rw [HSTEP.out];exact HSW.out
      obtain ⟨ds,hdu,hdd⟩:=Option.map_eq_some_iff.1 Tryz.rowSt
      have HTU:Hid (Tryz.prog.underlying 134=some ds):=hdu
      have HTD:Hid (ds.isRow=true):=hdd
      obtain ⟨CL,HCL⟩:∃CL,Hid ((stpC (.slice (some ⟨g,0,none⟩) l.length cap) hand fr turn (.slice (some ⟨gb,0,none⟩) s.vis.length s.vis.length) ov' wv' s.wait.most s.wait.over ev' s.ended.most s.ended.over)=CL):=⟨_,rfl⟩
      have HRG:Hid (wr.rangeAt R 0 CL):=by show World.rangeAt _ _ _ _;rw [←HCL.out];exact HS.out.cells
      have HCLN:Hid (CL.length=43):=by show _=_;rw [←HCL.out];exact stpC_len _ _ _ _ _ _ _ _ _ _ _ _
      have HSI:Hid ((Tryz.prog.info? 134).map (·.size)=some CL.length):=by show _=_;rw [HCLN.out];exact Tryz.sizeSt
      have HSA:Hid ((Tryz.prog.info? 134).map (·.size)=some CL.toArray.size):=by show _=_;rw [List.size_toArray,HCLN.out];exact Tryz.sizeSt
      obtain ⟨op1,oc1,hov1⟩:=ownsLenX HS.out.own
      obtain ⟨wp1,wc1,hwv1⟩:=ownsLenX HS.out.wait.own
      obtain ⟨ep1,ec1,hev1⟩:=ownsLenX HS.out.ended.own
      have HON:Hid (∀v∈CL,v.oneCell'=true):=by rw [←HCL.out];exact stpC_one rfl rfl (by rw [hov1];rfl) (by rw [hwv1];rfl) (by rw [hev1];rfl) _ _ _ _ _ _ _
      have HTH4:Hid (wr.there (w.heap.size+1) 0 CL.toArray.size):=HBR4.out.there (by rw [stp0_len,List.size_toArray,HCLN.out])
      have HE4:Hid ((wr.setCells (w.heap.size+1) 0 CL).rangeAt (w.heap.size+1) 0 CL):=(HBR4.out.put (by rw [stp0_len,HCLN.out])).r
      have HKE:Hid (Kp (fun b=>b=w.heap.size+1) wr (wr.setCells (w.heap.size+1) 0 CL)):=kp_setCells _ _ _
      have HFIN:Hid (SoverPost w g cap l hand CF (.returned (.agg CL.toArray)) (wr.setCells (w.heap.size+1) 0 CL)):=by
       have kw:KR R gb w wr:=(KR.of_nw HKW8.out).trans HKR.out
       have hnb:∀b,R+1≤b→¬b=w.heap.size+1:=fun b hb e=>by omega
       refine ⟨fr,turn,_,ov',wv',ev',s,by rw [HCL.out],HCF.out.1,HCF.out.2,rfl,?_,?_,?_,HSO.out.2.2,?_⟩
       ·exact owns_baseP (owns_kp HS.out.wait.own HKE.out (fun b hb=>hnb b (HS.out.wait.own.lt b hb).1)) (by omega)
       ·exact owns_baseP (owns_kp HS.out.ended.own HKE.out (fun b hb=>hnb b (HS.out.ended.own.lt b hb).1)) (by omega)
       ·exact owns_baseP (owns_kp HS.out.own HKE.out (fun b hb=>hnb b (HS.out.own.lt b hb).1)) (by omega)
       ·exact (kw.mono (T:=fun _=>False) (fun b hb e=>by rcases e with e|e <;> omega)).trans' HKE.out (fun b hb e=>by omega)
      clear hdu hdd hov1 hwv1 hev1
      go_wp2_with (first
       | (with_reducible (show Go.wpList _ _ _ ({ dst:=_,op:=Op.load 134 _,type:=_,pos:=_,after:=_,guard:=_ }::_) _ _);refine wpList_load_mid rfl 134 _ rfl R 0 rfl CL ds HRG.out HTU.out HTD.out HSI.out ?_)
       | (with_reducible (show Go.wpList _ _ _ ({ dst:=_,op:=Op.store 134 _ _,type:=_,pos:=_,after:=_,guard:=_ }::_) _ _);refine wpList_store_mid rfl 134 _ _ rfl (w.heap.size+1) 0 CL.toArray rfl rfl HTH4.out HSA.out (all_oneCell_toArray HON.out) ?_)
       | fail)
      refine bodyPost_ret (results_cX Tryz.results54 _ _ _ ⟨w.heap.size+1,0,none⟩ rfl _ (load_st HCLN.out HE4.out)) rfl ?_
      exact HFIN.out
end Go.Proofs.YtcboiapggnmpfaaGreatDoor
