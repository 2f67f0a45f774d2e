import Derived.Test.YtcboiapggnmpfabGreatQbv
namespace Go.Proofs.YtcboiapggnmpfabGreat
set_option maxRecDepth 100000
set_option maxHeartbeats 8000000
set_option linter.unusedSimpArgs false
set_option linter.unusedVariables false
open Go.RowKit
theorem dot_run {sc:List Int}:∀(L:List Evt) (n:Nat) (last:Int),GoesE sc last L→(∀i e,L[i]? = some e→(feedS sc ncode10 [1] 200 200 (runS sc ncode10 [1] 200 200 ⟨[],n,last,false⟩ (L.take i)) e).2.2=0)∧(∀i,i<L.length→(outS sc ncode10 [1] 200 200 ⟨[],n,last,false⟩ L)[i]? = some [⟨(n+i:Nat),(n+i:Nat),-1,-1,-1,-1⟩]):=by
 intro L
 induction L with
 | nil=>intro n last _;exact ⟨fun i e h=>by simp at h,fun i h=>by simp at h⟩
 | cons x L ih =>
  intro n last h
  obtain ⟨_,hg,ht,hr⟩:=h
  have hf:=dot_feed (sc:=sc) (n:=n) hg ht
  obtain ⟨i1,i2⟩:=ih (n+1) x.at' hr
  refine ⟨?_,?_⟩
  ·intro i e hi
   match i,hi with
   | 0,hi =>
    simp only [List.getElem?_cons_zero,Option.some.injEq] at hi
    subst hi
    show (feedS sc ncode10 [1] 200 200 ⟨[],n,last,false⟩ x).2.2=0
    rw [hf]
   | i+1,hi =>
    rw [List.take_succ_cons,runS_cons,hf]
    exact i1 i e (by simpa using hi)
  ·intro i hi
   unfold outS
   rw [hf]
   match i,hi with
   | 0,_=>rfl
   | i+1,hi =>
    rw [List.getElem?_cons_succ,i2 i (by simpa using hi),show n+1+i=n+(i+1) by omega]
theorem dot_pat {L:List Evt} (h:GoesE (bI ⟨#[49,49,49]⟩) 0 L):PatK ⟨#[46]⟩ ncode10 L:=by
 refine ⟨nprog10,by decide,?_⟩
 rw [dot_begins]
 exact (dot_run L 0 0 h).1
theorem awake_any (p:Option Addr) (ec:Nat) (L:List Evt) (w:World) (he:EvsP w p L) (hge:∀g,p=some ⟨g,0,none⟩→g<w.heap.size) (hL:L.length≤1000) (hev:∀e∈L,EvOk e) (hgo:GoesE (bI ⟨#[49,49,49]⟩) 0 L) :
  Calls Tryz.prog 12 #[.slice p L.length ec] w fun e w'=>e=.returned (.bool true)∧Nw w w':=by
 have HFO:Hid (Calls Tryz.prog 11 #[.string ⟨#[46]⟩,.slice p L.length ec] w fun e w'=>∃v hs,e=.returned (.tuple #[v,.bool true])∧Mds w' w.heap.size v hs∧hs.map (·.2)=outS (bI ⟨#[49,49,49]⟩) ncode10 (beginsS ncode10) 200 200 ⟨[],0,0,false⟩ L∧Nw w w'):=found_any _ _ p ec L w (dot_pat hgo) he hge hL hev
 have HDO:Hid (∀i,i<L.length→(outS (bI ⟨#[49,49,49]⟩) ncode10 (beginsS ncode10) 200 200 ⟨[],0,0,false⟩ L)[i]? = some [⟨(i:Nat),(i:Nat),-1,-1,-1,-1⟩]):=by
  intro i hi
  rw [dot_begins,(dot_run L 0 0 hgo).2 i hi,Nat.zero_add]
 have HLO:Hid ((outS (bI ⟨#[49,49,49]⟩) ncode10 (beginsS ncode10) 200 200 ⟨[],0,0,false⟩ L).length=L.length):=outS_len _ _ _ _ _ _ _
 clear he hge hev hgo
 generalize outS (bI ⟨#[49,49,49]⟩) ncode10 (beginsS ncode10) 200 200 ⟨[],0,0,false⟩ L=O at HFO HDO HLO
 obtain ⟨dd,hu,hd⟩:=Option.map_eq_some_iff.1 Tryz.rowMt'
 go_enter Tryz.func12,Tryz.ntmps12
 go_wp2_with fail
 refine HFO.out.mono ?_
 rintro e1 w1 ⟨v,hs,rfl,hm,ho,k1⟩
 obtain ⟨vp,vc,rfl⟩:=ownsLenX hm.row
 have hlen:hs.length=L.length:=by rw [←HLO.out,←ho];simp
 have HM:Hid (Mds w1 w.heap.size (.slice vp L.length vc) hs):=by rw [hlen] at hm;exact hm
 have HO:Hid (hs.map (·.2)=O):=ho
 have HLN:Hid (hs.length=L.length):=hlen
 have K1:Hid (Nw w w1):=k1
 rw [hlen]
 clear hm ho k1 HFO hlen
 go_wp2
 go_loopg [5] L.length (fun m v5 wr=>∃i:Nat,v5=.int .i64 i∧m=L.length - i∧i≤L.length∧Nw w1 wr)
 case atStart=>exact ⟨0,rfl,rfl,by omega,Kp.refl _ _⟩
 case round =>
  obtain ⟨i,rfl,hmm,hil,hN⟩:=hrel
  have HMM:Hid (_=L.length - i):=hmm
  have HN:Hid (Nw w1 wr):=hN
  clear hmm
  by_cases hi:i<L.length
  ·obtain ⟨x,hx⟩:∃x,hs[i]? = some x:=⟨hs[i]'(by rw [HLN.out];exact hi),by simp [HLN.out,hi]⟩
   obtain ⟨mv,ml⟩:=x
   have hml:ml=[⟨i,i,-1,-1,-1,-1⟩]:=by
    have h1:(hs.map (·.2))[i]? = some ml:=by simp [hx]
    rw [HO.out,HDO.out i hi] at h1
    simpa using h1.symm
   subst hml
   have hme:=HM.out.each _ (List.mem_of_getElem? hx)
   obtain ⟨gm,cm,e2⟩:=owns_some hme (by simp)
   simp only at e2
   subst e2
   have HCA:Hid (∀W,Nw wr W→∀ga,vp=some ⟨ga,0,none⟩→W.cell? ⟨ga,i,none⟩=some (.slice (some ⟨gm,0,none⟩) 1 cm)):=by
    intro W kW ga ega
    subst ega
    have hr:=owns_kp HM.out.row (HN.out.trans kW) (fun _ _ h=>h)
    rw [HLN.out] at hr
    exact owns_cell hr i (by simp [hx])
   have HRA:Hid (∀W,Nw wr W→W.rangeAt gm 0 (mtC ⟨i,i,-1,-1,-1,-1⟩)):=by
    intro W kW j v hv
    rw [Nat.zero_add]
    exact owns_cell (owns_kp hme (HN.out.trans kW) (fun _ _ h=>h)) j hv
   have hmo:MtOk ⟨i,i,-1,-1,-1,-1⟩:=by constructor <;> (unfold In64;constructor <;> (simp only [];omega))
   have HMO:Hid (MtOk ⟨i,i,-1,-1,-1,-1⟩):=hmo
   have hrow:=HM.out.row
   rw [HLN.out] at hrow
   obtain ⟨ga,ca,e3⟩:=owns_some hrow (by omega)
   simp only [Value.slice.injEq,true_and] at e3
   obtain ⟨rfl,rfl⟩:=e3
   have HCA2:Hid (∀W,Nw wr W→W.cell? ⟨ga,i,none⟩=some (.slice (some ⟨gm,0,none⟩) 1 cm)):=fun W kW=>HCA.out W kW ga rfl
   clear HCA
   have HCA:=HCA2
   clear HCA2 hme hrow hx hmo hN
   have hii:(i:Int)<L.length:=by omega
   have hz:0≤(i:Int):=by omega
   go_wp2
   refine wp_region_held_drew (S:=fun W=>Nw wr W) (by kernel_rfl) ((Kp.refl _ _).drew) (fun hHeld => ?_)
   refine tL (i:=0) (v := ?_) rfl (Or.inl ⟨by rfl,fun W hSW => ?y0⟩) hHeld ?_
   case y0=>(try dsimp only at hSW);go_simp;rw []
   simp only [Act.put,sA,sZ,sS]
   refine tL (i:=1) (v := ?_) rfl (Or.inl ⟨by rfl,fun W hSW => ?y1⟩) hHeld ?_
   case y1=>(try dsimp only at hSW);go_simp;rw []
   simp only [Act.put,sA,sZ,sS]
   refine tL (i:=2) (v := ?_) rfl (Or.inl ⟨by rfl,fun W hSW => ?y2⟩) hHeld ?_
   case y2=>(try dsimp only at hSW);go_simp;rw []
   simp only [Act.put,sA,sZ,sS]
   refine tL (i:=3) (v := ?_) rfl (Or.inl ⟨by rfl,fun W hSW => ?y3⟩) hHeld ?_
   case y3=>(try dsimp only at hSW);have hq:=HCA.out W hSW;go_simp;rw []
   simp only [Act.put,sA,sZ,sS]
   refine tL (i:=4) (v := ?_) rfl (Or.inl ⟨by rfl,fun W hSW => ?y4⟩) hHeld ?_
   case y4=>(try dsimp only at hSW);go_simp;rw []
   simp only [Act.put,sA,sZ,sS]
   refine tL (i:=5) (v := ?_) rfl (Or.inl ⟨by rfl,fun W hSW => ?y5⟩) hHeld ?_
   case y5=>(try dsimp only at hSW);go_simp;rw []
   simp only [Act.put,sA,sZ,sS]
   refine tL (i:=6) (v := ?_) rfl (Or.inl ⟨by rfl,fun W hSW => ?y6⟩) hHeld ?_
   case y6=>(try dsimp only at hSW);go_simp;rw []
   simp only [Act.put,sA,sZ,sS]
   refine tL (i:=7) (v := ?_) rfl (Or.inl ⟨by rfl,fun W hSW => ?y7⟩) hHeld ?_
   case y7=>(try dsimp only at hSW);go_simp;rw []
   simp only [Act.put,sA,sZ,sS]
   refine tL (i:=8) (v := ?_) rfl (Or.inl ⟨by rfl,fun W hSW => ?y8⟩) hHeld ?_
   case y8=>(try dsimp only at hSW);go_simp;rw []
   simp only [Act.put,sA,sZ,sS]
   refine tL (i:=9) (v := ?_) rfl (Or.inl ⟨by rfl,fun W hSW => ?y9⟩) hHeld ?_
   case y9=>(try dsimp only at hSW);go_simp;rw []
   simp only [Act.put,sA,sZ,sS]
   refine tL (i:=10) (v := ?_) rfl (Or.inl ⟨by rfl,fun W hSW => ?y10⟩) hHeld ?_
   case y10=>(try dsimp only at hSW);have hq:=HCA.out W hSW;go_simp;rw []
   simp only [Act.put,sA,sZ,sS]
   refine tL (i:=11) (v := ?_) rfl (Or.inl ⟨by rfl,fun W hSW => ?y11⟩) hHeld ?_
   case y11=>(try dsimp only at hSW);go_simp;rw []
   simp only [Act.put,sA,sZ,sS]
   refine tL (i:=12) (v:=_) rfl (yieldsIf_load_mid (by rfl) 36 _ rfl gm (0) rfl (mtC ⟨i,i,-1,-1,-1,-1⟩) dd HRA.out hu hd (size_mt _)) hHeld ?_
   simp only [Act.put,sA,sZ,sS]
   refine tL (i:=13) (v := ?_) rfl (Or.inl ⟨by rfl,fun W hSW => ?y13⟩) hHeld ?_
   case y13=>(try dsimp only at hSW);go_simp;rw []
   simp only [Act.put,sA,sZ,sS]
   refine tL (i:=14) (v := ?_) rfl (Or.inl ⟨by rfl,fun W hSW => ?y14⟩) hHeld ?_
   case y14=>(try dsimp only at hSW);go_simp;rw []
   simp only [Act.put,sA,sZ,sS]
   refine wpAnyH_ready (rs:=[15]) (by kernel_rfl) (by simp) ?_
   refine consL rfl (fun K hK => ?_) AllReadyH.nil
   go_simp
   refine (none_any _).mono ?_
   rintro e5 w5 ⟨rfl,k5⟩
   have k8:Nw wr w5:=((Kp.refl _ _).drew).trans k5
   try dsimp only
   refine hK.out _ _ k8 (fun _ => ?_)
   clear hK K
   try simp only [Act.put,sA,sZ,sS]
   refine tL (i:=16) (v := ?_) rfl (Or.inl ⟨by rfl,fun W hSW => ?y16⟩) k8 ?_
   case y16=>(try dsimp only at hSW);go_simp;rw []
   simp only [Act.put,sA,sZ,sS]
   refine tL (i:=17) (v:=.bool false) rfl (Or.inl ⟨by rfl,fun W hSW=>exec_neqS (u:=⟨i,i,-1,-1,-1,-1⟩) rfl rfl rfl HMO.out W⟩) k8 ?_
   simp only [Act.put,sA,sZ,sS]
   refine tL (i:=18) (v := ?_) rfl (Or.inl ⟨by rfl,fun W hSW => ?y18⟩) k8 ?_
   case y18=>(try dsimp only at hSW);go_simp;rw []
   simp only [Act.put,sA,sZ,sS]
   refine wpAnyH_done (by kernel_rfl) ?_ _
   have K5:Hid (Nw w1 w5):=HN.out.trans k8
   clear k5 k8 HCA HRA
   go_wp2
   go_roundg (L.length - (i+1))
   case measure=>rw [HMM.out];omega
   case rel=>exact ⟨i+1,by simp,rfl,by omega,K5.out⟩
  ·have hii:¬(i:Int)<L.length:=by omega
   go_wp2
   go_ret
   exact ⟨by simp,K1.out.trans HN.out⟩
open Value (slice)
def EvsO (w:World) (p:Option Addr) (l:List Evt):Prop:=¬l=[]→∃g o,p=some ⟨g,o,none⟩∧g<w.heap.size∧∀(i:Nat) (x:Evt),l[i]? = some x→w.rangeAt g (o+i*5) (evC5 x)
theorem EvsO.kp {S:Nat→Prop} {w w':World} {p:Option Addr} {l:List Evt} (h:EvsO w p l) (k:Kp S w w') (hS:∀g o,p=some ⟨g,o,none⟩→¬S g):EvsO w' p l:=by
 intro hne
 obtain ⟨g,o,e,hl,hc⟩:=h hne
 exact ⟨g,o,e,Nat.lt_of_lt_of_le hl k.size,fun i x hx j v hv=>(k.cell (p:=⟨g,o+i*5+j,none⟩) hl (hS g o e)).trans (hc i x hx j v hv)⟩
structure FedMO (sc:List Int) (l:List In) (bs:List Nat) (w:World) (A g cap:Nat) (bv:Value) (p:Option Addr) (L:List Evt) (r0:Rst) (i:Nat) (v:Value) (hs:List (Value×List Mt)) (wr:World):Prop where
 k:RunK wr A sc 200 200 g cap l bv bs (runS sc l bs 200 200 r0 (L.take i))
 e:EvsO wr p L
 m:Mds wr w.heap.size v hs
 o:hs.map (·.2)=outS sc l bs 200 200 r0 (L.take i)
 f:Kp (fun b=>b=A) w wr
theorem fedO_any (sc:List Int) (l:List In) (bs:List Nat) (A g cap:Nat) (bv:Value) (p:Option Addr) (ec:Nat) (L:List Evt) (r0:Rst) (w:World) (hc:RunC sc 200 200 l bs) (hk:RunK w A sc 200 200 g cap l bv bs r0) (he:EvsO w p L) (hpA:∀g o,p=some ⟨g,o,none⟩→¬g=A) (hge:∀g o,p=some ⟨g,o,none⟩→g<w.heap.size) (hL:L.length≤1000) (hev:∀e∈L,EvOk e)
  (hok:∀i e,L[i]? = some e→(feedS sc l bs 200 200 (runS sc l bs 200 200 r0 (L.take i)) e).2.2=0∧(runS sc l bs 200 200 r0 (L.take i)).count≤1000000) :
  Calls Tryz.prog 30 #[.pointer (some ⟨A,0,none⟩),.slice p L.length ec] w fun e w'=>∃v hs,e=.returned (.tuple #[v,.bool (decide (((runS sc l bs 200 200 r0 L).count:Int)=(L.length:Int)))])∧Mds w' w.heap.size v hs∧hs.map (·.2)=outS sc l bs 200 200 r0 L∧RunK w' A sc 200 200 g cap l bv bs (runS sc l bs 200 200 r0 L)∧Kp (fun b=>b=A) w w':=by
 obtain ⟨i0,hi0,hz0,hz1,hz2⟩:=info_parts Tryz.infoSm
 have hAl:A<w.heap.size:=by obtain ⟨⟨_,h⟩,_,_⟩:=hk;exact h.lt
 have HC:Hid (RunC sc 200 200 l bs):=hc
 have HOK:Hid (∀i e,L[i]? = some e→(feedS sc l bs 200 200 (runS sc l bs 200 200 r0 (L.take i)) e).2.2=0∧(runS sc l bs 200 200 r0 (L.take i)).count≤1000000):=hok
 have HEV:Hid (∀e∈L,EvOk e):=hev
 have HPA:Hid (∀g o,p=some ⟨g,o,none⟩→¬g=A):=hpA
 have hgl0:g<w.heap.size:=by obtain ⟨⟨_,h⟩,_,_⟩:=hk;exact h.code.lt
 have HGE:Hid (∀ge o,p=some ⟨ge,o,none⟩→ge<w.heap.size):=hge
 have HS0:Hid (FedMO sc l bs w A g cap bv p L r0 0 (.slice none 0 0) [] w):=⟨hk,he,⟨World.ownsRow_nil _ _ _ _,fun x hx=>by simp at hx⟩,rfl,Kp.refl _ _⟩
 clear hc hk he hok hev hpA hge
 go_enter Tryz.func30,Tryz.ntmps30
 go_wp2
 go_loopg [6,7] L.length (fun m v6 v7 wr=>∃(i:Nat) (hs:List (Value×List Mt)),v7=.int .i64 i∧m=L.length - i∧i≤L.length∧hs.length=i∧FedMO sc l bs w A g cap bv p L r0 i v6 hs wr)
 case atStart=>exact ⟨0,[],rfl,rfl,by omega,rfl,HS0.out⟩
 case round =>
  obtain ⟨i,hs,rfl,hm,hil,hhl,hF⟩:=hrel
  have HM:Hid (_=L.length - i):=hm
  have HF:Hid (FedMO sc l bs w A g cap bv p L r0 i u6 hs wr):=hF
  have HHL:Hid (hs.length=i):=hhl
  clear hm HS0 hhl
  by_cases hi:i<L.length
  ·obtain ⟨x,hx⟩:∃x,L[i]? = some x:=⟨L[i],by simp [hi]⟩
   have hne:¬L=[]:=by intro e;rw [e] at hx;simp at hx
   obtain ⟨ge,oe,rfl,hgl,hce⟩:=hF.e hne
   obtain ⟨hz,hct⟩:=HOK.out i x hx
   have HTK:Hid (L.take (i+1)=L.take i++[x]):=by show _=_;rw [List.take_add_one,hx];rfl
   have HFD:Hid (Calls Tryz.prog 21 #[.pointer (some ⟨A,0,none⟩),.agg #[.int .i64 x.at',.int .i64 x.kind,.int .i64 x.x,.int .i64 x.y,.int .i64 x.z]] wr (FeedPost wr A sc 200 200 g cap l bv bs (feedS sc l bs 200 200 (runS sc l bs 200 200 r0 (L.take i)) x))):=feedX_any A sc 200 200 g cap l bv bs _ x wr HC.out hF.k (HEV.out x (List.mem_of_getElem? hx)) hct
   have HR1:Hid (runS sc l bs 200 200 r0 (L.take (i+1))=(feedS sc l bs 200 200 (runS sc l bs 200 200 r0 (L.take i)) x).1):=by show _=_;rw [HTK.out,runS_snoc]
   have HO1:Hid (outS sc l bs 200 200 r0 (L.take (i+1))=outS sc l bs 200 200 r0 (L.take i)++[(feedS sc l bs 200 200 (runS sc l bs 200 200 r0 (L.take i)) x).2.1]):=by show _=_;rw [HTK.out,outS_snoc]
   have HZ:Hid ((feedS sc l bs 200 200 (runS sc l bs 200 200 r0 (L.take i)) x).2.2=0):=hz
   generalize feedS sc l bs 200 200 (runS sc l bs 200 200 r0 (L.take i)) x=P at HFD HR1 HO1 HZ
   have d0:=hce i x hx 0 _ rfl
   have d1:=hce i x hx 1 _ rfl
   have d2:=hce i x hx 2 _ rfl
   have d3:=hce i x hx 3 _ rfl
   have d4:=hce i x hx 4 _ rfl
   simp only [Nat.add_zero] at d0
   have hil2:(i:Int)<L.length:=by omega
   clear hF hce hz hct hx hne
   go_wp2_with fail
   refine HFD.out.mono ?_
   rintro e3 w3 ⟨mv,rfl,hO,hk3,kk,_⟩
   obtain ⟨mp,mc,rfl⟩:=ownsLenX hO
   have HO:Hid (w3.ownsRow wr.heap.size 36 6 (.slice mp P.2.1.length mc) P.2.1.length (mtsC P.2.1)):=hO
   have HK3:Hid (RunK w3 A sc 200 200 g cap l bv bs P.1):=hk3
   have KK:Hid (Kp (fun b=>b=A) wr w3):=kk
   have hz3:=HZ.out
   clear hO hk3 kk HFD d0 d1 d2 d3 d4
   rw [hz3]
   have M3:Hid (Mds w3 w.heap.size u6 hs):=HF.out.m.kp KK.out (by intro b hb _ e;omega)
   have hwr:w.heap.size≤wr.heap.size:=HF.out.f.size
   have hw3:wr.heap.size≤w3.heap.size:=KK.out.size
   go_wp2_with (at_builtin;refine wpList_append_lies _ rfl _ _ 26 rfl w.heap.size 33 i0 (.slice none 0 0) 1 24 Tryz.underSM hi0 hz0 hz1 hz2 rfl (by decide) _ _ _ rfl (M3.out.row.alloc _) ⟨w3.heap.size,0,none⟩ 1 1 [.slice mp P.2.1.length mc] rfl rfl ?c1 ?c2 (by decide) ?c3 ?c4 ?c5 _ rfl ?_)
   case c1=>exact news_one _ (by simp) _ _
   case c2 =>
    intro u hu
    simp at hu
    subst hu
    rfl
   case c3=>have:=HHL.out;unfold maxLen;omega
   case c4=>have:=HHL.out;omega
   case c5=>simp;omega
   intro g4 cap4 w4 hown4 hgrow4 hat4 hlt4
   have k34:Nw w3 (w3.alloc (.cells #[.slice mp P.2.1.length mc] 33)):=(Kp.refl _ _).alloc _
   have M4:Hid (Mds w4 w.heap.size (.slice (some ⟨g4,0,none⟩) (hs.length+1) cap4) (hs++[(.slice mp P.2.1.length mc,P.2.1)])):=(M3.out.kp k34 (fun _ _ _ h=>h)).more (by omega) hgrow4 hown4 (ownsBaseX (owns_kp HO.out k34 (fun _ _ h=>h)) hwr)
   have k4:Kp (fun b=>u6.ownBlock=some b) w3 w4:=(k34.mono (fun _ _ h=>False.elim h)).grown hgrow4 (fun b hb=>Or.inr hb)
   have F4:Hid (FedMO sc l bs w A g cap bv (some ⟨ge,oe,none⟩) L r0 (i+1) (.slice (some ⟨g4,0,none⟩) (hs.length+1) cap4) (hs++[(.slice mp P.2.1.length mc,P.2.1)]) w4):=by
    have hge:ge<w.heap.size:=HGE.out ge oe rfl
    refine ⟨by rw [HR1.out];exact HK3.out.kq M3.out.row k4 hAl hgl0,?_,M4.out,?_,?_⟩
    ·refine (HF.out.e.kp KK.out HPA.out).kp k4 ?_
     intro g' o' e' e2
     have:=(M3.out.row.lt g' e2).1
     have:=HGE.out g' o' e'
     omega
    ·rw [HO1.out,←HF.out.o];simp
    ·exact (HF.out.f.trans' KK.out (fun _ _ h=>h)).trans' k4 (fun b hb e2=>by have:=(M3.out.row.lt b e2).1;omega)
   have HL4:Hid ((hs++[(slice mp P.2.1.length mc,P.2.1)]).length=i+1):=by show _=_;simp [HHL.out]
   clear hown4 hgrow4 hat4 k4
   go_wp2
   go_roundg (L.length - (i+1))
   case measure=>rw [HM.out];omega
   case rel=>exact ⟨i+1,_,by simp,rfl,by omega,HL4.out,F4.out⟩
  ·have ei:i=L.length:=by omega
   have HT:Hid (L.take i=L):=by show _=_;rw [ei];simp
   obtain ⟨wv,hR⟩:=hF.k.m
   have HCT:Hid (Calls Tryz.prog 23 #[.pointer (some ⟨A,0,none⟩)] wr fun e w'=>e=.returned (.int .i64 ((runS sc l bs 200 200 r0 L).count:Int))∧w'=wr):=by
    have:=countX_any A _ wr hR.ct
    rw [HT.out] at this
    exact this
   have hil2:¬(i:Int)<L.length:=by omega
   clear hR hF
   go_wp2_with fail
   refine HCT.out.mono ?_
   rintro e4 w4 ⟨rfl,rfl⟩
   go_wp2
   go_ret2
   have q1:=HF.out.k
   have q2:=HF.out.o
   rw [HT.out] at q1 q2
   exact ⟨_,hs,rfl,HF.out.m,q2,q1,HF.out.f⟩
theorem foundO_any (s:ByteArray) (code:List In) (p:Option Addr) (ec:Nat) (L:List Evt) (w:World) (hK:PatK s code L) (he:EvsO w p L) (hge:∀g o,p=some ⟨g,o,none⟩→g<w.heap.size) (hL:L.length≤1000) (hev:∀e∈L,EvOk e) :
  Calls Tryz.prog 11 #[.string s,.slice p L.length ec] w fun e w'=>∃v hs,e=.returned (.tuple #[v,.bool true])∧Mds w' w.heap.size v hs∧hs.map (·.2)=outS (bI ⟨#[49,49,49]⟩) code (beginsS code) 200 200 ⟨[],0,0,false⟩ L∧Nw w w':=by
 have HNW:Hid (∀W,Calls Tryz.prog 18 #[.string ⟨#[49,49,49]⟩,.agg #[.int .i64 200,.int .i64 200],.string s] W (LdPost W (bI ⟨#[49,49,49]⟩) 200 200 code)):=fun W=>new_any _ _ 200 200 _ W (by unfold maxLen;decide) (by have:=hK.z;unfold maxLen;omega) hK.p (by omega) (by omega) (by omega) (by omega)
 have hcn:=run_count (r:=⟨[],0,0,false⟩) hK.ok
 have HOK:Hid (∀i e,L[i]? = some e→(feedS (bI ⟨#[49,49,49]⟩) code (beginsS code) 200 200 (runS (bI ⟨#[49,49,49]⟩) code (beginsS code) 200 200 ⟨[],0,0,false⟩ (L.take i)) e).2.2=0∧(runS (bI ⟨#[49,49,49]⟩) code (beginsS code) 200 200 ⟨[],0,0,false⟩ (L.take i)).count≤1000000):=by
  intro i e hi
  have hl:=(List.getElem?_eq_some_iff.1 hi).1
  refine ⟨hK.ok i e hi,?_⟩
  rw [hcn i (by omega)]
  show 0+i≤_
  omega
 have HCN:Hid ((runS (bI ⟨#[49,49,49]⟩) code (beginsS code) 200 200 ⟨[],0,0,false⟩ L).count=L.length):=by
  have:=hcn L.length (Nat.le_refl _)
  rw [List.take_length] at this
  show _=_
  rw [this];show 0+_=_;omega
 have HE:Hid (EvsO w p L):=he
 have HGE:Hid (∀g o,p=some ⟨g,o,none⟩→g<w.heap.size):=hge
 have HEV:Hid (∀e∈L,EvOk e):=hev
 clear hK he hge hev hcn
 generalize bI ⟨#[49,49,49]⟩=sc at *
 go_enter Tryz.func11,Tryz.ntmps11
 go_wp2_with fail
 refine (great_any w).mono ?_
 rintro e1 w1 ⟨rfl,k1⟩
 go_wp2_with fail
 refine (HNW.out w1).mono ?_
 rintro e2 w2 ⟨X,rfl,hnr⟩
 obtain ⟨g,cap,bv,hrk,hg,hbv⟩:=hnr.k
 have hX:w.heap.size≤X:=Nat.le_trans k1.size hnr.x
 have HX:Hid (w.heap.size≤X):=hX
 have K2:Hid (Nw w w2):=k1.trans hnr.n
 have HFE:Hid (Calls Tryz.prog 30 #[.pointer (some ⟨X,0,none⟩),.slice p L.length ec] w2 fun e w'=>∃v hs,e=.returned (.tuple #[v,.bool (decide (((runS sc code (beginsS code) 200 200 ⟨[],0,0,false⟩ L).count:Int)=(L.length:Int)))])∧Mds w' w2.heap.size v hs∧hs.map (·.2)=outS sc code (beginsS code) 200 200 ⟨[],0,0,false⟩ L∧RunK w' X sc 200 200 g cap code bv (beginsS code) (runS sc code (beginsS code) 200 200 ⟨[],0,0,false⟩ L)∧Kp (fun b=>b=X) w2 w') :=
  fedO_any sc code (beginsS code) X g cap bv p ec L ⟨[],0,0,false⟩ w2 hnr.c hrk (HE.out.kp K2.out (fun _ _ _ h=>h)) (fun g' o' e'=>by have:=HGE.out g' o' e';omega) (fun g' o' e'=>Nat.lt_of_lt_of_le (HGE.out g' o' e') K2.out.size) hL HEV.out HOK.out
 clear hrk hnr hg hbv k1 HNW
 go_wp2_with fail
 refine HFE.out.mono ?_
 rintro e3 w3 ⟨v,hs,rfl,hm,ho,hk3,kk⟩
 have hd:decide (((runS sc code (beginsS code) 200 200 ⟨[],0,0,false⟩ L).count:Int)=(L.length:Int))=true:=by rw [HCN.out];simp
 rw [hd]
 obtain ⟨vp,vc,rfl⟩:=ownsLenX hm.row
 have HM:Hid (Mds w3 w.heap.size (.slice vp hs.length vc) hs):=hm.base K2.out.size
 have HO:Hid (hs.map (·.2)=outS sc code (beginsS code) 200 200 ⟨[],0,0,false⟩ L):=ho
 have K3:Hid (Nw w w3):=K2.out.trans' kk (by intro b hb e;have:=HX.out;omega)
 clear hm ho hk3 kk HFE hd
 go_wp2
 go_ret2
 exact ⟨_,hs,rfl,HM.out,HO.out,K3.out⟩
end Go.Proofs.YtcboiapggnmpfabGreat
