import Derived.Test.YtcboiapggnmpfaaGreatDoorQbl
namespace Go.Proofs.YtcboiapggnmpfaaGreatDoor
set_option maxRecDepth 100000
set_option maxHeartbeats 8000000
set_option linter.unusedSimpArgs false
set_option linter.unusedVariables false
open Go.RowKit
open Value (int bool slice)
open IntKind (i64)
theorem range_setA {w:World} {A k:Nat} {cs:List Value} (h:w.rangeAt A 0 cs) (hk:cs.length≤k) (v:Value):(w.setCell ⟨A,k,none⟩ v).rangeAt A 0 cs:=range_set h (Or.inr (by omega)) v
theorem RunM.next {w:World} {A:Nat} {sc:List Int} {live found:Int} {g cap:Nat} {l:List In} {bv:Value} {bs:List Nat} {wv:Value} {ws:List Thr} {count:Nat} {last:Int} {spent:Bool} (h:RunM w A sc live found g cap l bv bs wv ws count last spent) (hA:A<w.heap.size) {wv':Value} {ws':List Thr} (ho:w.ownsRow 0 129 27 wv' ws'.length (thsC ws')) (hn:¬wv'.ownBlock=some A) (t:Int) :
  RunM (((w.setCell ⟨A,9,none⟩ wv').setCell ⟨A,10,none⟩ (.int .i64 ((count:Int)+1))).setCell ⟨A,11,none⟩ (.int .i64 t)) A sc live found g cap l bv bs wv' ws' (count+1) t spent:=by
 have kk:Kp (fun b=>b=A) w (((w.setCell ⟨A,9,none⟩ wv').setCell ⟨A,10,none⟩ (.int .i64 ((count:Int)+1))).setCell ⟨A,11,none⟩ (.int .i64 t)):=(((Kp.refl (fun b=>b=A) w).setCell (p:=⟨A,9,none⟩) (Or.inr rfl) _).setCell (p:=⟨A,10,none⟩) (Or.inr rfl) _).setCell (p:=⟨A,11,none⟩) (Or.inr rfl) _
 refine ⟨range_setA (range_setA (range_setA h.s (by simp) _) (by simp) _) (by simp) _,by simp [go_sem,h.l0],by simp [go_sem,h.l1],by simp [go_sem,h.cd],by simp [go_sem,h.bg],by simp [go_sem,h.wt,h.z],by simp [go_sem,h.ct,h.z],by simp [go_sem,h.ls,h.z],by simp [go_sem,h.sp],?_,h.code.kp kk h.gA,owns_kp h.bo kk ?_,owns_kp ho kk ?_,h.gA,h.bA,hn⟩
 ·intro p;rw [←h.z p];simp [go_sem]
 ·intro b hb e;subst e;exact h.bA hb
 ·intro b hb e;subst e;exact hn hb
theorem RunM.spend {w:World} {A:Nat} {sc:List Int} {live found:Int} {g cap:Nat} {l:List In} {bv:Value} {bs:List Nat} {wv:Value} {ws:List Thr} {count:Nat} {last:Int} {spent:Bool} (h:RunM w A sc live found g cap l bv bs wv ws count last spent):RunM ((w.setCell ⟨A,12,none⟩ (.bool true)).setCell ⟨A,9,none⟩ (.slice none 0 0)) A sc live found g cap l bv bs (.slice none 0 0) [] count last true:=by
 have kk:Kp (fun b=>b=A) w ((w.setCell ⟨A,12,none⟩ (.bool true)).setCell ⟨A,9,none⟩ (.slice none 0 0)):=((Kp.refl (fun b=>b=A) w).setCell (p:=⟨A,12,none⟩) (Or.inr rfl) _).setCell (p:=⟨A,9,none⟩) (Or.inr rfl) _
 refine ⟨range_setA (range_setA h.s (by simp) _) (by simp) _,by simp [go_sem,h.l0],by simp [go_sem,h.l1],by simp [go_sem,h.cd],by simp [go_sem,h.bg],by simp [go_sem,h.wt,h.z],by simp [go_sem,h.ct],by simp [go_sem,h.ls],by simp [go_sem,h.sp,h.z],?_,h.code.kp kk h.gA,owns_kp h.bo kk ?_,World.ownsRow_nil _ _ _ _,h.gA,h.bA,by simp [Value.ownBlock]⟩
 ·intro p;rw [←h.z p];simp [go_sem]
 ·intro b hb e;subst e;exact h.bA hb
structure Rst where
 ws:List Thr
 count:Nat
 last:Int
 spent:Bool
def feedS (sc:List Int) (l:List In) (bs:List Nat) (live found:Int) (r:Rst) (e:Evt):Rst×List Mt×Int :=
 if r.spent=true then (r,[],12)
 else if e.at'<r.last∨goodE sc e=false then (r,[],10)
 else if (stepS l ⟨r.count,e⟩ r.ws bs live found).1.over||(stepS l ⟨r.count,e⟩ r.ws bs live found).2.over then (⟨[],r.count,r.last,true⟩,[],11)
 else (⟨(stepS l ⟨r.count,e⟩ r.ws bs live found).1.l,r.count+1,e.at',r.spent⟩,(stepS l ⟨r.count,e⟩ r.ws bs live found).2.l.map (fun t=>matchT t r.count),0)
structure RunK (w:World) (A:Nat) (sc:List Int) (live found:Int) (g cap:Nat) (l:List In) (bv:Value) (bs:List Nat) (r:Rst):Prop where
 m:∃wv,RunM w A sc live found g cap l bv bs wv r.ws r.count r.last r.spent
 n:r.ws.length≤10000
 k:∀u∈r.ws,TOk u
structure RunC (sc:List Int) (live found:Int) (l:List In) (bs:List Nat):Prop where
 n:l.length≤1000
 a:AllIns l
 i:∀x∈l,InOk x
 b:bs.length≤2000
 bl:∀b∈bs,b<l.length
 lv:live≤10000
 fd:found≤10000
 sc:sc.length≤4
def LowB (w w':World) (A:Nat):Prop:=∀v b,w'.cell? ⟨A,9,none⟩=some v→v.ownBlock=some b→w.heap.size≤b∨w.cell? ⟨A,9,none⟩=some v
def FeedPost (w:World) (A:Nat) (sc:List Int) (live found:Int) (g cap:Nat) (l:List In) (bv:Value) (bs:List Nat) (p:Rst×List Mt×Int) (r:Ending) (w':World):Prop :=
 ∃v,r=.returned (.tuple #[v,.int .i64 p.2.2])∧w'.ownsRow w.heap.size 35 6 v p.2.1.length (mtsC p.2.1)∧RunK w' A sc live found g cap l bv bs p.1∧Kp (fun b=>b=A) w w'∧(¬p.2.2=0→v=.slice none 0 0)∧LowB w w' A
theorem feedT_any (A:Nat) (sc:List Int) (live found:Int) (g cap:Nat) (l:List In) (bv:Value) (bs:List Nat) (r:Rst) (e:Evt) (w:World) (hc:RunC sc live found l bs) (hk:RunK w A sc live found g cap l bv bs r) (he:EvOk e) (hct:r.count≤1000000) :
  Calls Tryz.prog 34 #[.pointer (some ⟨A,0,none⟩),evV e] w (FeedPost w A sc live found g cap l bv bs (feedS sc l bs live found r e)):=by
 obtain ⟨ws,count,last,spent⟩:=r
 obtain ⟨⟨wv,hM⟩,hwn,hwk⟩:=hk
 simp only at hM hwn hwk hct
 have H:Hid (RunM w A sc live found g cap l bv bs wv ws count last spent):=hM
 have HWK:Hid (∀u∈ws,TOk u):=hwk
 have hAl:=hM.lt
 have HK0:Hid (Nw w (w.alloc (.cells #[.int .i64 e.at',.int .i64 e.kind,.int .i64 e.x,.int .i64 e.y,.int .i64 e.z] 32))):=(Kp.refl _ w).alloc _
 have HB0:Hid (∀W,Nw (w.alloc (.cells #[.int .i64 e.at',.int .i64 e.kind,.int .i64 e.x,.int .i64 e.y,.int .i64 e.z] 32)) W→Bx W w.heap.size [.int .i64 e.at',.int .i64 e.kind,.int .i64 e.x,.int .i64 e.y,.int .i64 e.z]):=fun W kW=>(Bx.new w [.int .i64 e.at',.int .i64 e.kind,.int .i64 e.x,.int .i64 e.y,.int .i64 e.z] 32).kp (by simp) kW (fun h=>h)
 have HSAME:Hid (∀W (c:Int),Nw w W→FeedPost w A sc live found g cap l bv bs (⟨ws,count,last,spent⟩,[],c) (.returned (.tuple #[.slice none 0 0,.int .i64 c])) W):=fun W c kW=>⟨_,rfl,World.ownsRow_nil _ _ _ _,⟨⟨wv,H.out.nw kW⟩,hwn,hwk⟩,kW.mono (fun _ _ h=>h.elim),fun _=>rfl,fun v b hv _=>Or.inr ((kW.cell (p:=⟨A,9,none⟩) H.out.lt (fun h=>h)).symm.trans hv)⟩
 have HF:Hid (feedS sc l bs live found ⟨ws,count,last,spent⟩ e=if spent=true then (⟨ws,count,last,spent⟩,[],12) else if e.at'<last∨goodE sc e=false then (⟨ws,count,last,spent⟩,[],10) else if (stepS l ⟨count,e⟩ ws bs live found).1.over||(stepS l ⟨count,e⟩ ws bs live found).2.over then (⟨[],count,last,true⟩,[],11) else (⟨(stepS l ⟨count,e⟩ ws bs live found).1.l,count+1,e.at',spent⟩,(stepS l ⟨count,e⟩ ws bs live found).2.l.map (fun t=>matchT t count),0)):=rfl
 generalize feedS sc l bs live found ⟨ws,count,last,spent⟩ e=P at *
 have HA0:Hid (A<(w.alloc (.cells #[.int .i64 e.at',.int .i64 e.kind,.int .i64 e.x,.int .i64 e.y,.int .i64 e.z] 32)).heap.size):=by show _<_;simp;omega
 unfold evV
 clear hM hwk
 cases spent with
 | true =>
  rw [if_pos rfl] at HF
  have c12:(w.alloc (.cells #[.int .i64 e.at',.int .i64 e.kind,.int .i64 e.x,.int .i64 e.y,.int .i64 e.z] 32)).cell? ⟨A,12,none⟩=some (.bool true):=(H.out.nw HK0.out).sp
  go_enter Tryz.func34,Tryz.ntmps34
  go_wp2
  go_ret2
  rw [HF.out];exact HSAME.out _ 12 HK0.out
 | false =>
  rw [if_neg (by simp)] at HF
  have c12:(w.alloc (.cells #[.int .i64 e.at',.int .i64 e.kind,.int .i64 e.x,.int .i64 e.y,.int .i64 e.z] 32)).cell? ⟨A,12,none⟩=some (.bool false):=(H.out.nw HK0.out).sp
  have s1:∀W,Nw (w.alloc (.cells #[.int .i64 e.at',.int .i64 e.kind,.int .i64 e.x,.int .i64 e.y,.int .i64 e.z] 32)) W→W.cell? ⟨w.heap.size,0,none⟩=some (.int .i64 e.at')∧W.cell? ⟨w.heap.size,1,none⟩=some (.int .i64 e.kind)∧W.cell? ⟨w.heap.size,2,none⟩=some (.int .i64 e.x)∧W.cell? ⟨w.heap.size,3,none⟩=some (.int .i64 e.y)∧W.cell? ⟨w.heap.size,4,none⟩=some (.int .i64 e.z):=fun W kW=>by
   have hb:=HB0.out W kW
   exact ⟨hb.cell (k:=0) rfl,hb.cell (k:=1) rfl,hb.cell (k:=2) rfl,hb.cell (k:=3) rfl,hb.cell (k:=4) rfl⟩
  have s2:∀W,Nw (w.alloc (.cells #[.int .i64 e.at',.int .i64 e.kind,.int .i64 e.x,.int .i64 e.y,.int .i64 e.z] 32)) W→W.cell? ⟨A,11,none⟩=some (.int .i64 last):=fun W kW=>(H.out.nw (HK0.out.trans kW)).ls
  have s3:∀W,Nw (w.alloc (.cells #[.int .i64 e.at',.int .i64 e.kind,.int .i64 e.x,.int .i64 e.y,.int .i64 e.z] 32)) W→W.cell? ⟨A,0,none⟩=some (.int .i64 sc.length)∧W.cell? ⟨A,1,none⟩=some (.int .i64 (scF sc 0))∧W.cell? ⟨A,2,none⟩=some (.int .i64 (scF sc 1))∧W.cell? ⟨A,3,none⟩=some (.int .i64 (scF sc 2))∧W.cell? ⟨A,4,none⟩=some (.int .i64 (scF sc 3)):=fun W kW=>by
   have hr:=(H.out.nw (HK0.out.trans kW)).s
   exact ⟨hr 0 _ rfl,hr 1 _ rfl,hr 2 _ rfl,hr 3 _ rfl,hr 4 _ rfl⟩
  by_cases hlt:e.at'<last
  ·rw [if_pos (Or.inl hlt)] at HF
   have hlt':decide (e.at'<last)=true:=by simpa using hlt
   go_enter Tryz.func34,Tryz.ntmps34
   go_wp2
   generalize (w.alloc (.cells #[.int .i64 e.at',.int .i64 e.kind,.int .i64 e.x,.int .i64 e.y,.int .i64 e.z] 32))=w0 at *
   refine wp_region_held_drew (S:=fun W=>Nw w0 W) (by kernel_rfl) ((Kp.refl _ _).drew) (fun hHeld => ?_)
   refine tM 0 rfl (fun W hSW=>by (try dsimp only at hSW);go_simp;rw []) hHeld ?_
   refine tM 1 rfl (fun W hSW=>by (try dsimp only at hSW);go_simp;rw []) hHeld ?_
   refine tM 2 rfl (fun W hSW=>by (try dsimp only at hSW);go_simp;rw []) hHeld ?_
   refine tM 3 rfl (fun W hSW=>by (try dsimp only at hSW);go_simp;rw []) hHeld ?_
   refine tM 4 rfl (fun W hSW=>by (try dsimp only at hSW);go_simp;rw []) hHeld ?_
   refine tM 5 rfl (fun W hSW=>by (try dsimp only at hSW);go_simp;rw []) hHeld ?_
   refine tM 6 rfl (fun W hSW=>by (try dsimp only at hSW);go_simp;rw []) hHeld ?_
   refine tM 7 rfl (fun W hSW=>by (try dsimp only at hSW);go_simp;rw []) hHeld ?_
   refine tN (i:=8) (v:=undef) rfl (Or.inr ⟨by rfl,rfl⟩) hHeld ?_
   refine tN (i:=9) (v:=undef) rfl (Or.inr ⟨by rfl,rfl⟩) hHeld ?_
   refine tN (i:=10) (v:=undef) rfl (Or.inr ⟨by rfl,rfl⟩) hHeld ?_
   refine tN (i:=11) (v:=undef) rfl (Or.inr ⟨by rfl,rfl⟩) hHeld ?_
   refine tN (i:=12) (v:=undef) rfl (Or.inr ⟨by rfl,rfl⟩) hHeld ?_
   refine tN (i:=13) (v:=undef) rfl (Or.inr ⟨by rfl,rfl⟩) hHeld ?_
   refine tN (i:=14) (v:=undef) rfl (Or.inr ⟨by rfl,rfl⟩) hHeld ?_
   refine tM 15 rfl (fun W hSW=>by (try dsimp only at hSW);go_simp;rw []) hHeld ?_
   refine wpAnyH_done (by kernel_rfl) ?_ _
   have HK1:Hid (Nw w w0.drew):=HK0.out.drew
   clear s1 s2 s3 hHeld
   go_wp2
   go_ret2
   rw [HF.out];exact HSAME.out _ 10 HK1.out
  ·have hlt':decide (e.at'<last)=false:=by simpa using hlt
   have HGD:Hid (∀W,Calls Tryz.prog 53 #[.agg #[.int .i64 sc.length,.int .i64 (scF sc 0),.int .i64 (scF sc 1),.int .i64 (scF sc 2),.int .i64 (scF sc 3)],.agg #[.int .i64 e.at',.int .i64 e.kind,.int .i64 e.x,.int .i64 e.y,.int .i64 e.z]] W fun r w'=>r=.returned (.bool (goodE sc e))∧Nw W w'):=fun W=>isGood_any sc hc.sc e W
   have HGT:Hid (goodE sc e=true→TimeOk e.at'):=by
    intro hg
    unfold goodE at hg
    simp only [Bool.and_eq_true,decide_eq_true_eq] at hg
    exact ⟨hg.1.1.1.1.2,hg.1.1.1.2⟩
   go_enter Tryz.func34,Tryz.ntmps34
   go_wp2
   generalize (w.alloc (.cells #[.int .i64 e.at',.int .i64 e.kind,.int .i64 e.x,.int .i64 e.y,.int .i64 e.z] 32))=w0 at *
   refine wp_region_held_drew (S:=fun W=>Nw w0 W) (by kernel_rfl) ((Kp.refl _ _).drew) (fun hHeld => ?_)
   refine tM 0 rfl (fun W hSW=>by (try dsimp only at hSW);go_simp;rw []) hHeld ?_
   refine tM 1 rfl (fun W hSW=>by (try dsimp only at hSW);go_simp;rw []) hHeld ?_
   refine tM 2 rfl (fun W hSW=>by (try dsimp only at hSW);go_simp;rw []) hHeld ?_
   refine tM 3 rfl (fun W hSW=>by (try dsimp only at hSW);go_simp;rw []) hHeld ?_
   refine tM 4 rfl (fun W hSW=>by (try dsimp only at hSW);go_simp;rw []) hHeld ?_
   refine tM 5 rfl (fun W hSW=>by (try dsimp only at hSW);go_simp;rw []) hHeld ?_
   refine tM 6 rfl (fun W hSW=>by (try dsimp only at hSW);go_simp;rw []) hHeld ?_
   refine tM 7 rfl (fun W hSW=>by (try dsimp only at hSW);go_simp;rw []) hHeld ?_
   refine tM 8 rfl (fun W hSW=>by (try dsimp only at hSW);go_simp;rw []) hHeld ?_
   refine tM 9 rfl (fun W hSW=>by (try dsimp only at hSW);go_simp;rw []) hHeld ?_
   refine tM 10 rfl (fun W hSW=>by (try dsimp only at hSW);go_simp;rw []) hHeld ?_
   refine tM 11 rfl (fun W hSW=>by (try dsimp only at hSW);go_simp;rw []) hHeld ?_
   refine tM 12 rfl (fun W hSW=>by (try dsimp only at hSW);go_simp;rw []) hHeld ?_
   refine wpAnyH_ready (rs:=[13]) (by kernel_rfl) (by simp) ?_
   refine consL rfl (fun K hK => ?_) AllReadyH.nil
   go_simp
   refine (HGD.out _).mono ?_
   rintro e7 w7 ⟨rfl,k7⟩
   have k8:Nw w0 w7:=((Kp.refl _ _).drew).trans k7
   try dsimp only
   refine hK.out _ _ k8 (fun _ => ?_)
   clear hK K
   try simp only [Act.put,sA,sZ,sS]
   cases hgood:goodE sc e with
   | false =>
    refine tM 14 rfl (fun W hSW=>by (try dsimp only at hSW);go_simp;rw []) k8 ?_
    refine tM 15 rfl (fun W hSW=>by (try dsimp only at hSW);go_simp;rw []) k8 ?_
    refine wpAnyH_done (by kernel_rfl) ?_ _
    rw [if_pos (Or.inr hgood)] at HF
    have HK1:Hid (Nw w w7):=HK0.out.trans k8
    clear s1 s2 s3 hHeld k8 k7
    go_wp2
    go_ret2
    rw [HF.out];exact HSAME.out _ 10 HK1.out
   | true =>
    refine tM 14 rfl (fun W hSW=>by (try dsimp only at hSW);go_simp;rw []) k8 ?_
    refine tM 15 rfl (fun W hSW=>by (try dsimp only at hSW);go_simp;rw []) k8 ?_
    refine wpAnyH_done (by kernel_rfl) ?_ _
    rw [if_neg (by simp [hgood,hlt])] at HF
    have HK1:Hid (Nw w w7):=HK0.out.trans k8
    have b7:=s1 w7 k8
    have hw7:w.heap.size<w7.heap.size:=(HB0.out w7 k8).lt (by simp)
    have HB7:Hid (Bx w7 w.heap.size [.int .i64 e.at',.int .i64 e.kind,.int .i64 e.x,.int .i64 e.y,.int .i64 e.z]):=HB0.out w7 k8
    have HSO:Hid (Calls Tryz.prog 54 #[.pointer (some ⟨A,0,none⟩),.agg #[.int .i64 e.at',.int .i64 e.kind,.int .i64 e.x,.int .i64 e.y,.int .i64 e.z]] w7 (SoverPost w7 g cap l ⟨count,e⟩ (stepS l ⟨count,e⟩ ws bs live found))):=stepOver_any A sc live found g cap l bv bs wv ws count last false e ⟨count,e⟩ rfl w7 (H.out.nw HK1.out) hc.n hc.a hc.i he (HGT.out hgood) (by omega) hwn hc.b hc.bl HWK.out hc.lv hc.fd
    obtain ⟨hand,hhand⟩:∃hand:Nmb,hand=⟨count,e⟩:=⟨_,rfl⟩
    rw [←hhand] at HSO HF
    have HHN:Hid (hand.n=count):=by show _=_;rw [hhand]
    generalize stepS l hand ws bs live found=CC at *
    obtain ⟨b70,b71,b72,b73,b74⟩:=b7
    clear s1 s2 s3 hHeld k8 k7 HGD HGT hhand hgood
    go_wp2_with fail
    refine HSO.out.mono ?_
    rintro e6 w6 ⟨fr,turn,rv,ov,wv',ev',s,rfl,hsw,hse,hrv,how,hoe,hoo,hTn,k6⟩
    obtain ⟨CL,HCL⟩:∃CL,Hid ((stpC (.slice (some ⟨g,0,none⟩) l.length cap) hand fr turn rv ov wv' s.wait.most s.wait.over ev' s.ended.most s.ended.over)=CL):=⟨_,rfl⟩
    rw [HCL.out]
    have HCLN:Hid (CL.length=43):=by show _=_;rw [←HCL.out];exact stpC_len _ _ _ _ _ _ _ _ _ _ _ _
    have HSA:Hid ((Tryz.prog.info? 134).map (·.size)=some CL.toArray.size):=by show _=_;rw [List.size_toArray,HCLN.out];exact Tryz.sizeSt
    obtain ⟨op1,oc1,hov1⟩:=ownsLenX hoo
    obtain ⟨wp1,wc1,hwv1⟩:=ownsLenX how
    obtain ⟨ep1,ec1,hev1⟩:=ownsLenX hoe
    have HON:Hid (∀v∈CL,v.oneCell'=true):=by rw [←HCL.out];exact stpC_one rfl hrv (by rw [hov1];rfl) (by rw [hwv1];rfl) (by rw [hev1];rfl) _ _ _ _ _ _ _
    have HB8:Hid (Bx ((w6.alloc (.cells #[slice none 0 0,int i64 0,int i64 0,int i64 0,int i64 0,int i64 0,int i64 0,int i64 0,int i64 0,int i64 0,int i64 0,int i64 0,int i64 0,int i64 0,int i64 0,int i64 0,int i64 0,int i64 0,int i64 0,int i64 0,int i64 0,int i64 0,int i64 0,int i64 0,int i64 0,int i64 0,int i64 0,int i64 0,int i64 0,int i64 0,int i64 0,int i64 0,int i64 0,int i64 0,int i64 0,slice none 0 0,slice none 0 0,slice none 0 0,int i64 0,bool false,slice none 0 0,int i64 0,bool false] 134)).setCells w6.heap.size 0 CL) w6.heap.size CL):=by
     have hnew:=Bx.new w6 stp0 134
     rw [zerosSt] at hnew
     exact hnew.put (by rw [stp0_len,HCLN.out])
    have HTH8:Hid ((w6.alloc (.cells #[slice none 0 0,int i64 0,int i64 0,int i64 0,int i64 0,int i64 0,int i64 0,int i64 0,int i64 0,int i64 0,int i64 0,int i64 0,int i64 0,int i64 0,int i64 0,int i64 0,int i64 0,int i64 0,int i64 0,int i64 0,int i64 0,int i64 0,int i64 0,int i64 0,int i64 0,int i64 0,int i64 0,int i64 0,int i64 0,int i64 0,int i64 0,int i64 0,int i64 0,int i64 0,int i64 0,slice none 0 0,slice none 0 0,slice none 0 0,int i64 0,bool false,slice none 0 0,int i64 0,bool false] 134)).there w6.heap.size 0 CL.toArray.size):=by
     have hnew:=Bx.new w6 stp0 134
     rw [zerosSt] at hnew
     exact hnew.there (by rw [stp0_len,List.size_toArray,HCLN.out])
    have K68:Hid (Nw w6 ((w6.alloc (.cells #[slice none 0 0,int i64 0,int i64 0,int i64 0,int i64 0,int i64 0,int i64 0,int i64 0,int i64 0,int i64 0,int i64 0,int i64 0,int i64 0,int i64 0,int i64 0,int i64 0,int i64 0,int i64 0,int i64 0,int i64 0,int i64 0,int i64 0,int i64 0,int i64 0,int i64 0,int i64 0,int i64 0,int i64 0,int i64 0,int i64 0,int i64 0,int i64 0,int i64 0,int i64 0,int i64 0,slice none 0 0,slice none 0 0,slice none 0 0,int i64 0,bool false,slice none 0 0,int i64 0,bool false] 134)).setCells w6.heap.size 0 CL)):=((Kp.refl _ _).alloc _).trans' (kp_setCells _ 0 _) (by intro b hb e;omega)
    have K78:Hid (Nw w7 ((w6.alloc (.cells #[slice none 0 0,int i64 0,int i64 0,int i64 0,int i64 0,int i64 0,int i64 0,int i64 0,int i64 0,int i64 0,int i64 0,int i64 0,int i64 0,int i64 0,int i64 0,int i64 0,int i64 0,int i64 0,int i64 0,int i64 0,int i64 0,int i64 0,int i64 0,int i64 0,int i64 0,int i64 0,int i64 0,int i64 0,int i64 0,int i64 0,int i64 0,int i64 0,int i64 0,int i64 0,int i64 0,slice none 0 0,slice none 0 0,slice none 0 0,int i64 0,bool false,slice none 0 0,int i64 0,bool false] 134)).setCells w6.heap.size 0 CL)):=k6.trans K68.out
    have KW8:Hid (Nw w ((w6.alloc (.cells #[slice none 0 0,int i64 0,int i64 0,int i64 0,int i64 0,int i64 0,int i64 0,int i64 0,int i64 0,int i64 0,int i64 0,int i64 0,int i64 0,int i64 0,int i64 0,int i64 0,int i64 0,int i64 0,int i64 0,int i64 0,int i64 0,int i64 0,int i64 0,int i64 0,int i64 0,int i64 0,int i64 0,int i64 0,int i64 0,int i64 0,int i64 0,int i64 0,int i64 0,int i64 0,int i64 0,slice none 0 0,slice none 0 0,slice none 0 0,int i64 0,bool false,slice none 0 0,int i64 0,bool false] 134)).setCells w6.heap.size 0 CL)):=HK1.out.trans K78.out
    have HOW:Hid ((((w6.alloc (.cells #[slice none 0 0,int i64 0,int i64 0,int i64 0,int i64 0,int i64 0,int i64 0,int i64 0,int i64 0,int i64 0,int i64 0,int i64 0,int i64 0,int i64 0,int i64 0,int i64 0,int i64 0,int i64 0,int i64 0,int i64 0,int i64 0,int i64 0,int i64 0,int i64 0,int i64 0,int i64 0,int i64 0,int i64 0,int i64 0,int i64 0,int i64 0,int i64 0,int i64 0,int i64 0,int i64 0,slice none 0 0,slice none 0 0,slice none 0 0,int i64 0,bool false,slice none 0 0,int i64 0,bool false] 134)).setCells w6.heap.size 0 CL)).ownsRow w7.heap.size 129 27 wv' s.wait.l.length (thsC s.wait.l)):=owns_kp how K68.out (fun _ _ h=>h)
    have HOE:Hid ((((w6.alloc (.cells #[slice none 0 0,int i64 0,int i64 0,int i64 0,int i64 0,int i64 0,int i64 0,int i64 0,int i64 0,int i64 0,int i64 0,int i64 0,int i64 0,int i64 0,int i64 0,int i64 0,int i64 0,int i64 0,int i64 0,int i64 0,int i64 0,int i64 0,int i64 0,int i64 0,int i64 0,int i64 0,int i64 0,int i64 0,int i64 0,int i64 0,int i64 0,int i64 0,int i64 0,int i64 0,int i64 0,slice none 0 0,slice none 0 0,slice none 0 0,int i64 0,bool false,slice none 0 0,int i64 0,bool false] 134)).setCells w6.heap.size 0 CL)).ownsRow w7.heap.size 129 27 ev' s.ended.l.length (thsC s.ended.l)):=owns_kp hoe K68.out (fun _ _ h=>h)
    have HSW:Hid (s.wait=CC.1∧s.ended=CC.2):=⟨hsw,hse⟩
    have HTN:Hid (TnOk l.length s):=hTn
    have h67:w7.heap.size≤w6.heap.size:=k6.size
    have hb8:w6.heap.size<(((w6.alloc (.cells #[slice none 0 0,int i64 0,int i64 0,int i64 0,int i64 0,int i64 0,int i64 0,int i64 0,int i64 0,int i64 0,int i64 0,int i64 0,int i64 0,int i64 0,int i64 0,int i64 0,int i64 0,int i64 0,int i64 0,int i64 0,int i64 0,int i64 0,int i64 0,int i64 0,int i64 0,int i64 0,int i64 0,int i64 0,int i64 0,int i64 0,int i64 0,int i64 0,int i64 0,int i64 0,int i64 0,slice none 0 0,slice none 0 0,slice none 0 0,int i64 0,bool false,slice none 0 0,int i64 0,bool false] 134)).setCells w6.heap.size 0 CL)).heap.size:=HB8.out.lt (by rw [HCLN.out];omega)
    have HBE:Hid (Bx (((w6.alloc (.cells #[slice none 0 0,int i64 0,int i64 0,int i64 0,int i64 0,int i64 0,int i64 0,int i64 0,int i64 0,int i64 0,int i64 0,int i64 0,int i64 0,int i64 0,int i64 0,int i64 0,int i64 0,int i64 0,int i64 0,int i64 0,int i64 0,int i64 0,int i64 0,int i64 0,int i64 0,int i64 0,int i64 0,int i64 0,int i64 0,int i64 0,int i64 0,int i64 0,int i64 0,int i64 0,int i64 0,slice none 0 0,slice none 0 0,slice none 0 0,int i64 0,bool false,slice none 0 0,int i64 0,bool false] 134)).setCells w6.heap.size 0 CL)) w.heap.size [.int .i64 e.at',.int .i64 e.kind,.int .i64 e.x,.int .i64 e.y,.int .i64 e.z]):=HB7.out.kp (by simp) K78.out (fun h=>h)
    have HWV:Hid (wv'=.slice wp1 s.wait.l.length wc1):=hwv1
    clear how hoe hoo hsw hse hTn k6 hov1 hwv1 hev1 hrv b70 b71 b72 b73 b74 HSO
    have HIO:Hid (∀W,Nw ((w6.alloc (.cells #[slice none 0 0,int i64 0,int i64 0,int i64 0,int i64 0,int i64 0,int i64 0,int i64 0,int i64 0,int i64 0,int i64 0,int i64 0,int i64 0,int i64 0,int i64 0,int i64 0,int i64 0,int i64 0,int i64 0,int i64 0,int i64 0,int i64 0,int i64 0,int i64 0,int i64 0,int i64 0,int i64 0,int i64 0,int i64 0,int i64 0,int i64 0,int i64 0,int i64 0,int i64 0,int i64 0,slice none 0 0,slice none 0 0,slice none 0 0,int i64 0,bool false,slice none 0 0,int i64 0,bool false] 134)).setCells w6.heap.size 0 CL) W→Calls Tryz.prog 55 #[.pointer (some ⟨w6.heap.size,0,none⟩)] W fun e w'=>e=.returned (.bool (s.wait.over||s.ended.over))∧w'=W):=by
     intro W kW
     have hb:=HB8.out.kp (by rw [HCLN.out];omega) kW (fun h=>h)
     rw [←HCL.out] at hb
     exact isOver_any w6.heap.size s.wait.over s.ended.over W (hb.cell (k:=39) rfl) (hb.cell (k:=42) rfl)
    go_wp2_with (first
     | (with_reducible (show Go.wpList _ _ _ ({ dst:=_,op:=Op.store 134 _ _,type:=_,pos:=_,after:=_,guard:=_ }::_) _ _);refine wpList_store_mid rfl 134 _ _ rfl w6.heap.size 0 CL.toArray rfl rfl HTH8.out HSA.out (all_oneCell_toArray HON.out) ?_)
     | fail)
    refine (HIO.out _ (Kp.refl _ _)).mono ?_
    rintro e9 w9 ⟨rfl,rfl⟩
    have HH8:=(H.out.nw KW8.out)
    have HM8:Hid (RunM (((w6.alloc (.cells #[slice none 0 0,int i64 0,int i64 0,int i64 0,int i64 0,int i64 0,int i64 0,int i64 0,int i64 0,int i64 0,int i64 0,int i64 0,int i64 0,int i64 0,int i64 0,int i64 0,int i64 0,int i64 0,int i64 0,int i64 0,int i64 0,int i64 0,int i64 0,int i64 0,int i64 0,int i64 0,int i64 0,int i64 0,int i64 0,int i64 0,int i64 0,int i64 0,int i64 0,int i64 0,int i64 0,slice none 0 0,slice none 0 0,slice none 0 0,int i64 0,bool false,slice none 0 0,int i64 0,bool false] 134)).setCells w6.heap.size 0 CL)) A sc live found g cap l bv bs wv ws count last false):=HH8
    clear HH8 HIO HTH8 K68
    generalize ((w6.alloc (.cells #[slice none 0 0,int i64 0,int i64 0,int i64 0,int i64 0,int i64 0,int i64 0,int i64 0,int i64 0,int i64 0,int i64 0,int i64 0,int i64 0,int i64 0,int i64 0,int i64 0,int i64 0,int i64 0,int i64 0,int i64 0,int i64 0,int i64 0,int i64 0,int i64 0,int i64 0,int i64 0,int i64 0,int i64 0,int i64 0,int i64 0,int i64 0,int i64 0,int i64 0,int i64 0,int i64 0,slice none 0 0,slice none 0 0,slice none 0 0,int i64 0,bool false,slice none 0 0,int i64 0,bool false] 134)).setCells w6.heap.size 0 CL)=w8 at *
    have hA8:A<w8.heap.size:=HM8.out.lt
    have z8:=HM8.out.z
    have HOV:Hid ((s.wait.over||s.ended.over)=(CC.1.over||CC.2.over)):=by show _=_;rw [HSW.out.1,HSW.out.2]
    cases hov:(s.wait.over||s.ended.over) with
    | true =>
     rw [if_pos (by rw [←HOV.out];exact hov)] at HF
     have d12:=HM8.out.sp
     have d9:=HM8.out.wt
     have HEND:Hid (FeedPost w A sc live found g cap l bv bs P (.returned (.tuple #[.slice none 0 0,.int .i64 11])) ((w8.setCell ⟨A,12,none⟩ (.bool true)).setCell ⟨A,9,none⟩ (.slice none 0 0))):=by
      rw [HF.out]
      have kk:Kp (fun b=>b=A) w8 ((w8.setCell ⟨A,12,none⟩ (.bool true)).setCell ⟨A,9,none⟩ (.slice none 0 0)):=((Kp.refl (fun b=>b=A) w8).setCell (p:=⟨A,12,none⟩) (Or.inr rfl) _).setCell (p:=⟨A,9,none⟩) (Or.inr rfl) _
      exact ⟨_,rfl,World.ownsRow_nil _ _ _ _,⟨⟨_,HM8.out.spend⟩,by simp,by simp⟩,(KW8.out.mono (fun _ _ h=>h.elim)).trans kk,fun _=>rfl,fun v b hv hb=>by rw [HM8.out.spend.wt] at hv;cases hv;cases hb⟩
     clear hov HF
     go_wp2
     go_ret2
     exact HEND.out
    | false =>
     rw [if_neg (by rw [←HOV.out,hov];simp)] at HF
     have hwv:=HWV.out
     subst hwv
     have d9:=HM8.out.wt
     have d10:=HM8.out.ct
     have d11:=HM8.out.ls
     have hb37:w8.cell? ⟨w6.heap.size,37,none⟩=some (.slice wp1 s.wait.l.length wc1):=by have hb:=HB8.out;rw [←HCL.out] at hb;exact hb.cell (k:=37) rfl
     have be0:=HBE.out.cell (k:=0) (v:=.int .i64 e.at') rfl
     have hwE:w.heap.size<w8.heap.size:=HBE.out.lt (by simp)
     have hnA:¬w6.heap.size=A:=by omega
     have hnA2:¬A=w6.heap.size:=by omega
     have hnE:¬w.heap.size=A:=by omega
     have hnE2:¬A=w.heap.size:=by omega
     have kk:Kp (fun b=>b=A) w8 (((w8.setCell ⟨A,9,none⟩ (.slice wp1 s.wait.l.length wc1)).setCell ⟨A,10,none⟩ (.int .i64 ((count:Int)+1))).setCell ⟨A,11,none⟩ (.int .i64 e.at')):=(((Kp.refl (fun b=>b=A) w8).setCell (p:=⟨A,9,none⟩) (Or.inr rfl) _).setCell (p:=⟨A,10,none⟩) (Or.inr rfl) _).setCell (p:=⟨A,11,none⟩) (Or.inr rfl) _
     have hnw:¬(slice wp1 s.wait.l.length wc1).ownBlock=some A:=by intro e;have:=(HOW.out.lt A e).1;omega
     have HMN:Hid (RunM (((w8.setCell ⟨A,9,none⟩ (.slice wp1 s.wait.l.length wc1)).setCell ⟨A,10,none⟩ (.int .i64 ((count:Int)+1))).setCell ⟨A,11,none⟩ (.int .i64 e.at')) A sc live found g cap l bv bs (.slice wp1 s.wait.l.length wc1) s.wait.l (count+1) e.at' false):=HM8.out.next hA8 (owns_baseP HOW.out (by omega)) hnw e.at'
     have HMT:Hid (Calls Tryz.prog 56 #[.pointer (some ⟨w6.heap.size,0,none⟩)] (((w8.setCell ⟨A,9,none⟩ (.slice wp1 s.wait.l.length wc1)).setCell ⟨A,10,none⟩ (.int .i64 ((count:Int)+1))).setCell ⟨A,11,none⟩ (.int .i64 e.at')) (MsPost (((w8.setCell ⟨A,9,none⟩ (.slice wp1 s.wait.l.length wc1)).setCell ⟨A,10,none⟩ (.int .i64 ((count:Int)+1))).setCell ⟨A,11,none⟩ (.int .i64 e.at')) (s.ended.l.map (fun t=>matchT t hand.n)))):=by
      have hb:=HB8.out.kp (by rw [HCLN.out];omega) kk hnA
      rw [←HCL.out] at hb
      exact matches_any w6.heap.size w7.heap.size ev' s.ended.l hand.n _ (hb.cell (k:=40) rfl) (hb.cell (k:=1) rfl) (owns_kp HOE.out kk (by intro b hb e;have:=(HOE.out.lt b hb).1;omega)) HTN.out.e.n
     have HKN:Hid (Kp (fun b=>b=A) w (((w8.setCell ⟨A,9,none⟩ (.slice wp1 s.wait.l.length wc1)).setCell ⟨A,10,none⟩ (.int .i64 ((count:Int)+1))).setCell ⟨A,11,none⟩ (.int .i64 e.at'))):=(KW8.out.mono (fun _ _ h=>h.elim)).trans kk
     have hsN:w8.heap.size≤((((w8.setCell ⟨A,9,none⟩ (.slice wp1 s.wait.l.length wc1)).setCell ⟨A,10,none⟩ (.int .i64 ((count:Int)+1))).setCell ⟨A,11,none⟩ (.int .i64 e.at'))).heap.size:=kk.size
     clear hov kk
     go_wp2_with fail
     refine HMT.out.mono ?_
     rintro e10 w10 ⟨v,rfl,hov10,k10⟩
     have HEND:Hid (FeedPost w A sc live found g cap l bv bs P (.returned (.tuple #[v,.int .i64 0])) w10):=by
      rw [HF.out]
      have h1:CC.2.l.map (fun t=>matchT t (count:Int))=s.ended.l.map (fun t=>matchT t hand.n):=by rw [HSW.out.2,HHN.out]
      refine ⟨v,rfl,?_,⟨⟨slice wp1 s.wait.l.length wc1,?_⟩,?_,?_⟩,HKN.out.trans (k10.mono (fun _ _ h=>h.elim)),fun h=>absurd rfl h,fun v b hv hb=>by rw [(HMN.out.nw k10).wt] at hv;cases hv;have:=(HOW.out.lt b hb).1;left;omega⟩
      ·simp only
       rw [h1]
       exact owns_baseP hov10 (by omega)
      ·simp only
       rw [←HSW.out.1]
       exact HMN.out.nw k10
      ·simp only;rw [←HSW.out.1];exact HTN.out.w.n
      ·simp only;rw [←HSW.out.1];exact HTN.out.w.t
     clear hov10 k10 HMT
     go_wp2
     go_ret2
     exact HEND.out
end Go.Proofs.YtcboiapggnmpfaaGreatDoor
