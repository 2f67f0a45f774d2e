import Derived.Test.YtcboiapggnmpfaaGreatDoorQbx
namespace Go.Proofs.YtcboiapggnmpfaaGreatDoor
set_option maxRecDepth 100000
set_option maxHeartbeats 16000000
set_option linter.unusedSimpArgs false
set_option linter.unusedVariables false
open Go.RowKit
open Value (int)
open IntKind (i64)
theorem evsR_get3 (l:List Evt):∀(i j:Nat) (x:Evt),l[i]? = some x→j<5→(evsR l)[i*5+j]? = (evC5 x)[j]?:=by
 induction l with
 | nil=>intro i j x h;simp at h
 | cons y r ih =>
  intro i j x h hj
  have e:evsR (y::r)=evC5 y++evsR r:=by simp [evsR]
  have hl:(evC5 y).length=5:=rfl
  rw [e]
  cases i with
  | zero=>simp at h;subst h;rw [List.getElem?_append_left (by omega)];simp
  | succ i =>
   simp at h
   rw [List.getElem?_append_right (by omega),hl]
   have:(i+1)*5+j - 5=i*5+j:=by omega
   rw [this];exact ih i j x h hj
theorem Eb.evs3 {W0 wr:World} {lp:Option Addr} {n c:Nat} {L:List Evt} (h:Eb W0 wr (.slice lp n c) L):EvsP wr lp L∧(∀g,lp=some ⟨g,0,none⟩→g<wr.heap.size):=by
 refine ⟨?_,?_⟩
 ·intro hne
  obtain ⟨g,c',e⟩:=owns_some h.own (List.length_pos_iff.2 hne)
  simp only [Value.slice.injEq] at e
  obtain ⟨rfl,rfl,rfl⟩:=e
  refine ⟨g,rfl,(h.own.lt g rfl).2,?_⟩
  intro i x hx j v hv
  have hj:j<5:=by have:=(List.getElem?_eq_some_iff.1 hv).1;simpa [evC5] using this
  exact owns_cell h.own (i*5+j) (by rw [evsR_get3 L i j x hx hj];exact hv)
 ·intro g e
  subst e
  exact (h.own.lt g rfl).2
theorem good_time {sc:List Int} {e:Evt} (h:goodE sc e=true):0≤e.at'∧e.at'≤1000000000000000:=by
 unfold goodE at h
 simp only [Bool.and_eq_true,decide_eq_true_eq] at h
 first|exact ⟨h.1.1.1.1.1,h.1.1.1.1.2⟩ | exact ⟨h.1.1.1.1,h.1.1.1.2⟩ | exact ⟨h.1.1.1,h.1.1.2⟩ | exact ⟨h.1.1,h.1.2⟩ | exact ⟨h.1,h.2⟩ | omega
theorem evok_x {e:Evt} (h:EvOk e):In64 e.x:=by
 exact h.x
theorem pairs_any (p:Option Addr) (cap:Nat) (ns:List Int) (a dk:Int) (w:World) (hp:NumsP w p ns) (h64:∀n∈ns,In64 n) (hl:ns.length≤maxLen) (ha:In64 a) (hdk:In64 dk) :
  Calls Tryz.prog 3 #[.slice p ns.length cap,.int .i64 a,.int .i64 dk] w fun e w'=>e=.returned (.bool true)∧Nw w w':=by
 have HST:Hid (Calls Tryz.prog 5 #[.slice p ns.length cap,.int .i64 40] w fun e w'=>∃v,e=.returned v∧Eb w w' v (strTo ns (min ns.length 40)).1):=stream_any p cap 40 ns w hp h64 hl (by omega)
 have HL12:Hid ((strTo ns (min ns.length 40)).1.length≤40):=by show _≤_;rw [strTo_len ns _ (by omega)];omega
 have HLE:Hid (∀e∈(strTo ns (min ns.length 40)).1,EvOk e):=str_ok ns h64 _ (by omega)
 have HLG:Hid (GoesE (bI ⟨#[49,49,49]⟩) 0 (strTo ns (min ns.length 40)).1):=str_goes ns _ (by omega)
 generalize (strTo ns (min ns.length 40)).1=L at HST HL12 HLE HLG
 clear hp h64 hl
 obtain ⟨n,hn⟩:∃n:Nat,pickK a 12=n:=⟨(pickK a 12).toNat,by have:=pickK_lt (c:=a) (n:=12) (by omega);omega⟩
 have hn12:n<12:=by have:=pickK_lt (c:=a) (n:=12) (by omega);omega
 obtain ⟨d,hd⟩:∃d:Nat,pickK dk 60=d:=⟨(pickK dk 60).toNat,by have:=pickK_lt (c:=dk) (n:=60) (by omega);omega⟩
 have hd60:d<60:=by have:=pickK_lt (c:=dk) (n:=60) (by omega);omega
 have HPN:Hid (∀W,Calls Tryz.prog 6 #[.int .i64 a,.int .i64 12] W fun e w'=>e=.returned (.int .i64 (n:Int))∧w'=W):=fun W=>by
  have:=pickK_any a 12 W ha (by omega) (by omega)
  rw [hn] at this
  exact this
 have HPD:Hid (∀W,Calls Tryz.prog 6 #[.int .i64 dk,.int .i64 60] W fun e w'=>e=.returned (.int .i64 (d:Int))∧w'=W):=fun W=>by
  have:=pickK_any dk 60 W hdk (by omega) (by omega)
  rw [hd] at this
  exact this
 clear hd hn
 have hL12:=HL12.out
 have HIN:Hid (∀W,Calls Tryz.prog 7 #[.int .i64 (n:Int)] W fun e w'=>e=.returned (.string (numS n))∧w'=W):=fun W=>itoaP_any n (by omega) W
 have HID:Hid (∀W,Calls Tryz.prog 7 #[.int .i64 (d:Int)] W fun e w'=>e=.returned (.string (numS d))∧w'=W):=fun W=>itoaP_any d hd60 W
 have HPK:Hid (PatK (⟨#[97,65,32,46,42,32,98,91,120,62,65,120,43]⟩++numS n++⟨#[93,32,64]⟩++numS d) (pcode n d) L):=pair_pat hn12 hd60 HLG.out hL12
 have HO:Hid (outS (bI ⟨#[49,49,49]⟩) (pcode n d) (beginsS (pcode n d)) 200 200 ⟨[],0,0,false⟩ L=(List.range L.length).map (fun i=>prow L n d i (evD L i) i)):=p_outs (by omega) HLG.out hL12
 have hz1:=numS_size n
 have hz2:=numS_size d
 generalize numS n=SN at *
 generalize numS d=SD at *
 generalize pcode n d=PC at *
 go_enter Tryz.func3,Tryz.ntmps3
 go_wp2_with fail
 refine HST.out.mono ?_
 rintro e1 w1 ⟨lv,rfl,hE⟩
 obtain ⟨lp,lc,rfl⟩:=ownsLenX hE.own
 obtain ⟨hev,hge⟩:=hE.evs3
 have HE1:Hid (∀W,Nw w1 W→EvsP W lp L):=fun W kW=>hev.kp kW (fun _ _ h=>h)
 have HGE1:Hid (∀W,Nw w1 W→∀g,lp=some ⟨g,0,none⟩→g<W.heap.size):=fun W kW g e=>Nat.lt_of_lt_of_le (hge g e) kW.size
 have K1:Hid (Nw w w1):=hE.nw
 clear hE hev hge HST
 go_wp2_with fail
 refine (HPN.out _).mono ?_
 rintro e2 w2 ⟨rfl,rfl⟩
 go_wp2_with fail
 refine (HPD.out _).mono ?_
 rintro e3 w3 ⟨rfl,rfl⟩
 go_wp2_with fail
 refine (HIN.out _).mono ?_
 rintro e4 w4 ⟨rfl,rfl⟩
 go_wp2_with fail
 refine (HID.out _).mono ?_
 rintro e5 w5 ⟨rfl,rfl⟩
 have z1:¬9223372036854775807<13+SN.size:=by omega
 have z2:¬9223372036854775807<13+SN.size+3:=by omega
 have z3:¬9223372036854775807<13+SN.size+3+SD.size:=by omega
 have HF:Hid (Calls Tryz.prog 8 #[.string (⟨#[97,65,32,46,42,32,98,91,120,62,65,120,43]⟩++SN++⟨#[93,32,64]⟩++SD),.slice lp L.length lc] w5 fun e w'=>∃v hs,e=.returned (.tuple #[v,.bool true])∧Mds w' w5.heap.size v hs∧hs.map (·.2)=outS (bI ⟨#[49,49,49]⟩) PC (beginsS PC) 200 200 ⟨[],0,0,false⟩ L∧Nw w5 w'):=found_any _ _ lp lc L w5 HPK.out (HE1.out _ (Kp.refl _ _)) (HGE1.out _ (Kp.refl _ _)) (by omega) HLE.out
 clear hz1 hz2 HPN HPD HIN HID HPK
 go_wp2_with fail
 refine HF.out.mono ?_
 rintro e6 w6 ⟨v1,hs1,rfl,hm1,ho1,k6⟩
 rw [HO.out] at ho1
 have hn1:hs1.length=L.length:=by have h1:=congrArg List.length ho1;simp at h1;exact h1
 obtain ⟨vp1,vc1,rfl⟩:=ownsLenX hm1.row
 have M1:Hid (Mds w6 w5.heap.size (.slice vp1 hs1.length vc1) hs1):=hm1
 have HN1:Hid (hs1.length=L.length):=hn1
 have HQ1:Hid (hs1.map (·.2)=(List.range L.length).map (fun i=>prow L n d i (evD L i) i)):=ho1
 have K6:Hid (Nw w w6):=K1.out.trans k6
 have HE6:Hid (∀W,Nw w6 W→EvsP W lp L):=fun W kW=>HE1.out W (k6.trans kW)
 clear hm1 ho1 k6 HF hn1 HO HE1 HGE1 K1 z1 z2 z3
 obtain ⟨i0,hi0,hz0,hz1,hz2⟩:=info_parts Tryz.infoSm
 obtain ⟨i1,hi1,hy0,hy1,hy2⟩:=info_parts Tryz.infoMts
 go_wp2
 go_loopg [12,13] L.length (fun m v12 v13 wr=>∃(k:Nat) (hs:List (Value×List Mt)),v13=.int .i64 (k:Int)∧m=L.length - k∧k≤L.length∧hs.length=k∧hs.map (·.2)=(List.range k).map (fun i=>prow L n d i (evD L i) i)∧Mds wr w6.heap.size v12 hs∧Nw w6 wr)
 case atStart=>exact ⟨0,[],rfl,rfl,by omega,rfl,rfl,⟨World.ownsRow_nil _ _ _ _,fun x hx=>by simp at hx⟩,Kp.refl _ _⟩
 case round =>
  obtain ⟨k,hs,rfl,hmm,hkl,hhl,hhq,hM,hN⟩:=hrel
  have HMM:Hid (_=L.length - k):=hmm
  have HHL:Hid (hs.length=k):=hhl
  have HHQ:Hid (hs.map (·.2)=(List.range k).map (fun i=>prow L n d i (evD L i) i)):=hhq
  have HM:Hid (Mds wr w6.heap.size u12 hs):=hM
  have HN:Hid (Nw w6 wr):=hN
  clear hmm hhl hhq hM hN
  by_cases hk:k<L.length
  ·have hkk:(k:Int)<L.length:=by omega
   obtain ⟨e,he⟩:∃e,L[k]? = some e:=⟨L[k],by simp [hk]⟩
   have hLne:¬L=[]:=by intro e0;rw [e0] at he;simp at he
   obtain ⟨ge,rfl,hgl,_⟩:=HE6.out wr HN.out hLne
   have HEC:Hid (∀(j:Nat) (x:Evt) W,L[j]? = some x→Nw wr W→W.cell? ⟨ge,j*5,none⟩=some (.int .i64 x.at')∧W.cell? ⟨ge,j*5+1,none⟩=some (.int .i64 x.kind)∧W.cell? ⟨ge,j*5+2,none⟩=some (.int .i64 x.x)):=by
    intro j x W hx kW
    obtain ⟨g',e',_,hc'⟩:=HE6.out W (HN.out.trans kW) hLne
    cases e'
    exact ⟨by simpa using hc' j x hx 0 _ rfl,hc' j x hx 1 _ rfl,hc' j x hx 2 _ rfl⟩
   have HEK:Hid (L[k]? = some e):=he
   have HED:Hid (evD L k=e):=by show _=_;simp [evD,he]
   clear hLne hgl he
   generalize wr=wo at *
   go_wp2
   go_loopg [14,15] k (fun m v14 v15 wk=>∃i:Nat,v15=.int .i64 (i:Int)∧m=k - i∧i≤k∧(¬e.kind=1→i=0)∧wk.ownsRow wo.heap.size 35 6 v14 (prow L n d k e i).length (mtsC (prow L n d k e i))∧Nw wo wk)
   case atStart=>exact ⟨0,rfl,rfl,by omega,fun _=>rfl,by simpa [mtsC,prow] using World.ownsRow_nil wo wo.heap.size 35 6,Kp.refl _ _⟩
   case round =>
    obtain ⟨i,rfl,him,hik,hi1k,hv,hk2⟩:=hrel
    have HIM:Hid (_=k - i):=him
    have HV:Hid (wr.ownsRow wo.heap.size 35 6 u14 (prow L n d k e i).length (mtsC (prow L n d k e i))):=hv
    have HK2:Hid (Nw wo wr):=hk2
    have hfl:=prow_len L n d k e i
    have hwo:wo.heap.size≤wr.heap.size:=hk2.size
    have HKC:Hid (∀W,Nw wr W→W.cell? ⟨ge,k*5,none⟩=some (.int .i64 e.at')∧W.cell? ⟨ge,k*5+1,none⟩=some (.int .i64 e.kind)∧W.cell? ⟨ge,k*5+2,none⟩=some (.int .i64 e.x)):=fun W kW=>HEC.out k e W HEK.out (hk2.trans kW)
    have qk:=(HKC.out wr (Kp.refl _ _)).2.1
    clear him hv
    by_cases hgo:i<k∧e.kind=1
    ·obtain ⟨hi,hk1⟩:=hgo
     have hii:(i:Int)<(k:Int):=by omega
     have hk1b:(e.kind == 1)=true:=by simp [hk1]
     obtain ⟨ei,hei⟩:∃ei,L[i]? = some ei:=⟨L[i]'(by omega),by simp [show i<L.length by omega]⟩
     have HEI:Hid (L[i]? = some ei):=hei
     have hiL:(i:Int)<L.length:=by omega
     have HIC:Hid (∀W,Nw wr W→W.cell? ⟨ge,i*5,none⟩=some (.int .i64 ei.at')∧W.cell? ⟨ge,i*5+1,none⟩=some (.int .i64 ei.kind)∧W.cell? ⟨ge,i*5+2,none⟩=some (.int .i64 ei.x)):=fun W kW=>HEC.out i ei W hei (hk2.trans kW)
     have hte:=good_time (GoesE.last k e HLG.out HEK.out).1
     have htf:=good_time (GoesE.last i ei HLG.out hei).1
     have hwt:IntKind.i64.wrap (e.at' - ei.at')=e.at' - ei.at':=IntWalk.i64_in _ (by omega)
     have hxe:=evok_x (HLE.out e (List.mem_of_getElem? HEK.out))
     have hxi:=evok_x (HLE.out ei (List.mem_of_getElem? hei))
     have hwn:IntKind.i64.wrap (9223372036854775807 - (n:Int))=9223372036854775807 - (n:Int):=IntWalk.i64_in _ (by omega)
     clear hte htf hei hk2
     have hin0:ei.x≤9223372036854775807 - (n:Int)→In64 (ei.x+n):=by intro h;unfold In64 at hxi ⊢;omega
     have hin1:¬ei.x≤9223372036854775807 - (n:Int)→¬In64 (ei.x+n):=by intro h;unfold In64;omega
     by_cases hnear:e.at' - ei.at'≤(d:Int)
     ·by_cases hkd:ei.kind=0
      ·have hkb:(ei.kind == 0)=true:=by simp [hkd]
       by_cases hx1:ei.x≤9223372036854775807 - (n:Int)
       ·have hin:=hin0 hx1
        have hwa:IntKind.i64.wrap (ei.x+(n:Int))=ei.x+(n:Int):=IntWalk.i64_in _ (by unfold In64 at hin;omega)
        by_cases hlt:ei.x+(n:Int)<e.x
        ·skip
         have HPC:Hid (pcond L n d e i=true):=by show _=_;simp [pcond,HEI.out,hk1,hnear,hkd,hin,hlt]
         go_wp2
         refine wp_region_held_drew (S:=fun W=>Nw wr W) (by kernel_rfl) ((Kp.refl _ _).drew) (fun hHeld => ?_)
         refine tM 0 rfl (fun W hSW=>by (try dsimp only at hSW);go_simp;rw []) hHeld ?_
         refine tM 1 rfl (fun W hSW=>by (try dsimp only at hSW);go_simp;rw []) hHeld ?_
         refine tM 2 rfl (fun W hSW=>by (try dsimp only at hSW);go_simp;rw []) hHeld ?_
         refine tM 3 rfl (fun W hSW=>by (try dsimp only at hSW);go_simp;rw []) hHeld ?_
         refine tM 4 rfl (fun W hSW=>by (try dsimp only at hSW);have hq:=HKC.out W hSW;go_simp;rw []) hHeld ?_
         refine tM 5 rfl (fun W hSW=>by (try dsimp only at hSW);go_simp;rw []) hHeld ?_
         refine tM 6 rfl (fun W hSW=>by (try dsimp only at hSW);go_simp;rw []) hHeld ?_
         refine tM 7 rfl (fun W hSW=>by (try dsimp only at hSW);go_simp;rw []) hHeld ?_
         refine tM 8 rfl (fun W hSW=>by (try dsimp only at hSW);go_simp;rw []) hHeld ?_
         refine tM 9 rfl (fun W hSW=>by (try dsimp only at hSW);have hq:=HIC.out W hSW;go_simp;rw []) hHeld ?_
         refine tM 10 rfl (fun W hSW=>by (try dsimp only at hSW);go_simp;rw []) hHeld ?_
         refine tM 11 rfl (fun W hSW=>by (try dsimp only at hSW);go_simp;rw []) hHeld ?_
         refine tL (i:=12) (v:=.bool true) rfl (Or.inl ⟨by rfl,fun W hSW => ?y12⟩) hHeld ?_
         case y12=>(try dsimp only at hSW);go_simp;rw []
         simp only [Act.put,sA,sZ,sS]
         refine tM 13 rfl (fun W hSW=>by (try dsimp only at hSW);go_simp;rw []) hHeld ?_
         refine wpAnyH_done (by kernel_rfl) ?_ _
         have KD:Hid (Nw wr wr.drew):=(Kp.refl _ _).drew
         have HKD:Hid (Nw wo wr.drew):=HK2.out.trans KD.out
         have HVD:Hid (wr.drew.ownsRow wo.heap.size 35 6 u14 (prow L n d k e i).length (mtsC (prow L n d k e i))):=owns_kp HV.out KD.out (fun _ _ h=>h)
         have HKC2:Hid (∀W,Nw wr.drew W→W.cell? ⟨ge,k*5,none⟩=some (.int .i64 e.at')∧W.cell? ⟨ge,k*5+1,none⟩=some (.int .i64 e.kind)∧W.cell? ⟨ge,k*5+2,none⟩=some (.int .i64 e.x)):=fun W kW=>HKC.out W (KD.out.trans kW)
         have HIC2:Hid (∀W,Nw wr.drew W→W.cell? ⟨ge,i*5,none⟩=some (.int .i64 ei.at')∧W.cell? ⟨ge,i*5+1,none⟩=some (.int .i64 ei.kind)∧W.cell? ⟨ge,i*5+2,none⟩=some (.int .i64 ei.x)):=fun W kW=>HIC.out W (KD.out.trans kW)
         have hwd:wo.heap.size≤wr.drew.heap.size:=Nat.le_trans hwo KD.out.size
         clear HKC HIC qk HV HK2 KD hwo
         generalize wr.drew=wd at *
         go_wp2
         refine wp_region_held_drew (S:=fun W=>Nw wd W) (by kernel_rfl) ((Kp.refl _ _).drew) (fun hHeld => ?_)
         refine tM 0 rfl (fun W hSW=>by (try dsimp only at hSW);go_simp;rw []) hHeld ?_
         refine tM 1 rfl (fun W hSW=>by (try dsimp only at hSW);go_simp;rw []) hHeld ?_
         refine tM 2 rfl (fun W hSW=>by (try dsimp only at hSW);go_simp;rw []) hHeld ?_
         refine tM 3 rfl (fun W hSW=>by (try dsimp only at hSW);go_simp;rw []) hHeld ?_
         refine tM 4 rfl (fun W hSW=>by (try dsimp only at hSW);have hq:=HIC2.out W hSW;go_simp;rw []) hHeld ?_
         refine tL (i:=5) (v:=.bool true) rfl (Or.inl ⟨by rfl,fun W hSW => ?y5⟩) hHeld ?_
         case y5=>(try dsimp only at hSW);go_simp;rw []
         simp only [Act.put,sA,sZ,sS]
         refine tM 6 rfl (fun W hSW=>by (try dsimp only at hSW);go_simp;rw []) hHeld ?_
         refine tM 7 rfl (fun W hSW=>by (try dsimp only at hSW);go_simp;rw []) hHeld ?_
         refine tL (i:=8) (v:=.bool true) rfl (Or.inl ⟨by rfl,fun W hSW => ?y8⟩) hHeld ?_
         case y8=>(try dsimp only at hSW);go_simp;rw []
         simp only [Act.put,sA,sZ,sS]
         refine tM 9 rfl (fun W hSW=>by (try dsimp only at hSW);go_simp;rw []) hHeld ?_
         refine tM 10 rfl (fun W hSW=>by (try dsimp only at hSW);go_simp;rw []) hHeld ?_
         refine tM 11 rfl (fun W hSW=>by (try dsimp only at hSW);go_simp;rw []) hHeld ?_
         refine tM 12 rfl (fun W hSW=>by (try dsimp only at hSW);go_simp;rw []) hHeld ?_
         refine tM 13 rfl (fun W hSW=>by (try dsimp only at hSW);go_simp;rw []) hHeld ?_
         refine tM 14 rfl (fun W hSW=>by (try dsimp only at hSW);have hq:=HIC2.out W hSW;go_simp;rw []) hHeld ?_
         refine tM 15 rfl (fun W hSW=>by (try dsimp only at hSW);go_simp;rw []) hHeld ?_
         refine tM 16 rfl (fun W hSW=>by (try dsimp only at hSW);go_simp;rw []) hHeld ?_
         refine tL (i:=17) (v:=.bool true) rfl (Or.inl ⟨by rfl,fun W hSW => ?y17⟩) hHeld ?_
         case y17=>(try dsimp only at hSW);go_simp;rw []
         simp only [Act.put,sA,sZ,sS]
         refine tL (i:=18) (v:=.bool true) rfl (Or.inl ⟨by rfl,fun W hSW => ?y18⟩) hHeld ?_
         case y18=>(try dsimp only at hSW);go_simp;rw []
         simp only [Act.put,sA,sZ,sS]
         refine tM 19 rfl (fun W hSW=>by (try dsimp only at hSW);go_simp;rw []) hHeld ?_
         refine tM 20 rfl (fun W hSW=>by (try dsimp only at hSW);go_simp;rw []) hHeld ?_
         refine tM 21 rfl (fun W hSW=>by (try dsimp only at hSW);go_simp;rw []) hHeld ?_
         refine tM 22 rfl (fun W hSW=>by (try dsimp only at hSW);go_simp;rw []) hHeld ?_
         refine tM 23 rfl (fun W hSW=>by (try dsimp only at hSW);go_simp;rw []) hHeld ?_
         refine tM 24 rfl (fun W hSW=>by (try dsimp only at hSW);have hq:=HIC2.out W hSW;go_simp;rw []) hHeld ?_
         refine tM 25 rfl (fun W hSW=>by (try dsimp only at hSW);go_simp;rw []) hHeld ?_
         refine tM 26 rfl (fun W hSW=>by (try dsimp only at hSW);go_simp;rw []) hHeld ?_
         refine tM 27 rfl (fun W hSW=>by (try dsimp only at hSW);go_simp;rw []) hHeld ?_
         refine tM 28 rfl (fun W hSW=>by (try dsimp only at hSW);go_simp;rw []) hHeld ?_
         refine tM 29 rfl (fun W hSW=>by (try dsimp only at hSW);go_simp;rw []) hHeld ?_
         refine tM 30 rfl (fun W hSW=>by (try dsimp only at hSW);go_simp;rw []) hHeld ?_
         refine tM 31 rfl (fun W hSW=>by (try dsimp only at hSW);have hq:=HKC2.out W hSW;go_simp;rw []) hHeld ?_
         refine tL (i:=32) (v:=.bool true) rfl (Or.inl ⟨by rfl,fun W hSW => ?y32⟩) hHeld ?_
         case y32=>(try dsimp only at hSW);go_simp;rw []
         simp only [Act.put,sA,sZ,sS]
         refine tL (i:=33) (v:=.bool true) rfl (Or.inl ⟨by rfl,fun W hSW => ?y33⟩) hHeld ?_
         case y33=>(try dsimp only at hSW);go_simp;rw []
         simp only [Act.put,sA,sZ,sS]
         refine wpAnyH_done (by kernel_rfl) ?_ _
         have HVE:Hid (wd.drew.ownsRow wo.heap.size 35 6 u14 (prow L n d k e i).length (mtsC (prow L n d k e i))):=owns_kp HVD.out ((Kp.refl (fun _=>False) _).drew) (fun _ _ h=>h)
         have HKE:Hid (Nw wo wd.drew):=HKD.out.drew
         have hwe:wo.heap.size≤wd.drew.heap.size:=HKE.out.size
         have HSN:Hid (prow L n d k e (i+1)=prow L n d k e i++[⟨(i:Int),(k:Int),(i:Int),-1,-1,-1⟩]):=by show _=_;rw [prow_snoc,if_pos HPC.out]
         clear HVD HKD hwd HKC2 HIC2
         generalize wd.drew=wf at *
         obtain ⟨vp,vc,hve⟩:=ownsLenX HVE.out
         subst hve
         generalize hpr:prow L n d k e i=pr at *
         go_wp2_with (at_builtin;refine wpList_append_lies _ rfl _ _ 30 rfl wo.heap.size 35 i1 (.agg #[int i64 0,int i64 0,int i64 0,int i64 0,int i64 0,int i64 0]) 6 48 Tryz.unMts hi1 hy0 hy1 hy2 rfl (by decide) _ _ _ rfl (HVE.out.alloc _) ⟨wf.heap.size,0,none⟩ 1 1 [.int .i64 (i:Int),.int .i64 (k:Int),.int .i64 (i:Int),.int .i64 (-1),.int .i64 (-1),.int .i64 (-1)] rfl rfl ?b1 ?b2 (by decide) ?b3 ?b4 ?b5 _ rfl ?_)
         case b1=>intro j' u hu;rw [Addr.add_mid];exact (Bx.new wf [.int .i64 (i:Int),.int .i64 (k:Int),.int .i64 (i:Int),.int .i64 (-1),.int .i64 (-1),.int .i64 (-1)] 35).r j' u hu
         case b2=>first|exact ⟨rfl,rfl,rfl,rfl,rfl,rfl⟩ | (intro u hu;simp only [List.mem_cons,List.not_mem_nil,or_false] at hu;rcases hu with e|e|e|e|e|e <;> rw [e] <;> rfl)
         case b3=>unfold maxLen;omega
         case b4=>omega
         case b5=>first|omega|(simp;done)|(simp;omega)
         intro g3 cap3 w3' hown3 hgrow hat hltt
         have HV3:Hid (w3'.ownsRow wo.heap.size 35 6 (.slice (some ⟨g3,0,none⟩) (pr.length+1) cap3) (prow L n d k e (i+1)).length (mtsC (prow L n d k e (i+1)))):=by
          show World.ownsRow _ _ _ _ _ _ _
          rw [HSN.out,List.length_append,mtsC_app]
          simpa [mtsC,mtC] using hown3
         have HK3:Hid (Nw wo w3'):=(HKE.out.alloc _).grown hgrow (fun b hb=>Or.inl (HVE.out.lt b hb).1)
         clear hown3 hgrow hat
         go_wp2
         go_roundg (k - (i+1))
         case measure=>rw [HIM.out];omega
         case rel=>exact ⟨i+1,by simp,rfl,by omega,fun h=>absurd hk1 h,HV3.out,HK3.out⟩
        ·skip
         have HPC:Hid (pcond L n d e i=false):=by show _=_;simp only [pcond,HEI.out,hk1];simp;intros;first|omega|contradiction|(simp_all;done)|(simp_all;omega)
         go_wp2
         refine wp_region_held_drew (S:=fun W=>Nw wr W) (by kernel_rfl) ((Kp.refl _ _).drew) (fun hHeld => ?_)
         refine tM 0 rfl (fun W hSW=>by (try dsimp only at hSW);go_simp;rw []) hHeld ?_
         refine tM 1 rfl (fun W hSW=>by (try dsimp only at hSW);go_simp;rw []) hHeld ?_
         refine tM 2 rfl (fun W hSW=>by (try dsimp only at hSW);go_simp;rw []) hHeld ?_
         refine tM 3 rfl (fun W hSW=>by (try dsimp only at hSW);go_simp;rw []) hHeld ?_
         refine tM 4 rfl (fun W hSW=>by (try dsimp only at hSW);have hq:=HKC.out W hSW;go_simp;rw []) hHeld ?_
         refine tM 5 rfl (fun W hSW=>by (try dsimp only at hSW);go_simp;rw []) hHeld ?_
         refine tM 6 rfl (fun W hSW=>by (try dsimp only at hSW);go_simp;rw []) hHeld ?_
         refine tM 7 rfl (fun W hSW=>by (try dsimp only at hSW);go_simp;rw []) hHeld ?_
         refine tM 8 rfl (fun W hSW=>by (try dsimp only at hSW);go_simp;rw []) hHeld ?_
         refine tM 9 rfl (fun W hSW=>by (try dsimp only at hSW);have hq:=HIC.out W hSW;go_simp;rw []) hHeld ?_
         refine tM 10 rfl (fun W hSW=>by (try dsimp only at hSW);go_simp;rw []) hHeld ?_
         refine tM 11 rfl (fun W hSW=>by (try dsimp only at hSW);go_simp;rw []) hHeld ?_
         refine tL (i:=12) (v:=.bool true) rfl (Or.inl ⟨by rfl,fun W hSW => ?y12⟩) hHeld ?_
         case y12=>(try dsimp only at hSW);go_simp;rw []
         simp only [Act.put,sA,sZ,sS]
         refine tM 13 rfl (fun W hSW=>by (try dsimp only at hSW);go_simp;rw []) hHeld ?_
         refine wpAnyH_done (by kernel_rfl) ?_ _
         have KD:Hid (Nw wr wr.drew):=(Kp.refl _ _).drew
         have HKD:Hid (Nw wo wr.drew):=HK2.out.trans KD.out
         have HVD:Hid (wr.drew.ownsRow wo.heap.size 35 6 u14 (prow L n d k e i).length (mtsC (prow L n d k e i))):=owns_kp HV.out KD.out (fun _ _ h=>h)
         have HKC2:Hid (∀W,Nw wr.drew W→W.cell? ⟨ge,k*5,none⟩=some (.int .i64 e.at')∧W.cell? ⟨ge,k*5+1,none⟩=some (.int .i64 e.kind)∧W.cell? ⟨ge,k*5+2,none⟩=some (.int .i64 e.x)):=fun W kW=>HKC.out W (KD.out.trans kW)
         have HIC2:Hid (∀W,Nw wr.drew W→W.cell? ⟨ge,i*5,none⟩=some (.int .i64 ei.at')∧W.cell? ⟨ge,i*5+1,none⟩=some (.int .i64 ei.kind)∧W.cell? ⟨ge,i*5+2,none⟩=some (.int .i64 ei.x)):=fun W kW=>HIC.out W (KD.out.trans kW)
         have hwd:wo.heap.size≤wr.drew.heap.size:=Nat.le_trans hwo KD.out.size
         clear HKC HIC qk HV HK2 KD hwo
         generalize wr.drew=wd at *
         go_wp2
         refine wp_region_held_drew (S:=fun W=>Nw wd W) (by kernel_rfl) ((Kp.refl _ _).drew) (fun hHeld => ?_)
         refine tM 0 rfl (fun W hSW=>by (try dsimp only at hSW);go_simp;rw []) hHeld ?_
         refine tM 1 rfl (fun W hSW=>by (try dsimp only at hSW);go_simp;rw []) hHeld ?_
         refine tM 2 rfl (fun W hSW=>by (try dsimp only at hSW);go_simp;rw []) hHeld ?_
         refine tM 3 rfl (fun W hSW=>by (try dsimp only at hSW);go_simp;rw []) hHeld ?_
         refine tM 4 rfl (fun W hSW=>by (try dsimp only at hSW);have hq:=HIC2.out W hSW;go_simp;rw []) hHeld ?_
         refine tL (i:=5) (v:=.bool true) rfl (Or.inl ⟨by rfl,fun W hSW => ?y5⟩) hHeld ?_
         case y5=>(try dsimp only at hSW);go_simp;rw []
         simp only [Act.put,sA,sZ,sS]
         refine tM 6 rfl (fun W hSW=>by (try dsimp only at hSW);go_simp;rw []) hHeld ?_
         refine tM 7 rfl (fun W hSW=>by (try dsimp only at hSW);go_simp;rw []) hHeld ?_
         refine tL (i:=8) (v:=.bool true) rfl (Or.inl ⟨by rfl,fun W hSW => ?y8⟩) hHeld ?_
         case y8=>(try dsimp only at hSW);go_simp;rw []
         simp only [Act.put,sA,sZ,sS]
         refine tM 9 rfl (fun W hSW=>by (try dsimp only at hSW);go_simp;rw []) hHeld ?_
         refine tM 10 rfl (fun W hSW=>by (try dsimp only at hSW);go_simp;rw []) hHeld ?_
         refine tM 11 rfl (fun W hSW=>by (try dsimp only at hSW);go_simp;rw []) hHeld ?_
         refine tM 12 rfl (fun W hSW=>by (try dsimp only at hSW);go_simp;rw []) hHeld ?_
         refine tM 13 rfl (fun W hSW=>by (try dsimp only at hSW);go_simp;rw []) hHeld ?_
         refine tM 14 rfl (fun W hSW=>by (try dsimp only at hSW);have hq:=HIC2.out W hSW;go_simp;rw []) hHeld ?_
         refine tM 15 rfl (fun W hSW=>by (try dsimp only at hSW);go_simp;rw []) hHeld ?_
         refine tM 16 rfl (fun W hSW=>by (try dsimp only at hSW);go_simp;rw []) hHeld ?_
         refine tL (i:=17) (v:=.bool true) rfl (Or.inl ⟨by rfl,fun W hSW => ?y17⟩) hHeld ?_
         case y17=>(try dsimp only at hSW);go_simp;rw []
         simp only [Act.put,sA,sZ,sS]
         refine tL (i:=18) (v:=.bool true) rfl (Or.inl ⟨by rfl,fun W hSW => ?y18⟩) hHeld ?_
         case y18=>(try dsimp only at hSW);go_simp;rw []
         simp only [Act.put,sA,sZ,sS]
         refine tM 19 rfl (fun W hSW=>by (try dsimp only at hSW);go_simp;rw []) hHeld ?_
         refine tM 20 rfl (fun W hSW=>by (try dsimp only at hSW);go_simp;rw []) hHeld ?_
         refine tM 21 rfl (fun W hSW=>by (try dsimp only at hSW);go_simp;rw []) hHeld ?_
         refine tM 22 rfl (fun W hSW=>by (try dsimp only at hSW);go_simp;rw []) hHeld ?_
         refine tM 23 rfl (fun W hSW=>by (try dsimp only at hSW);go_simp;rw []) hHeld ?_
         refine tM 24 rfl (fun W hSW=>by (try dsimp only at hSW);have hq:=HIC2.out W hSW;go_simp;rw []) hHeld ?_
         refine tM 25 rfl (fun W hSW=>by (try dsimp only at hSW);go_simp;rw []) hHeld ?_
         refine tM 26 rfl (fun W hSW=>by (try dsimp only at hSW);go_simp;rw []) hHeld ?_
         refine tM 27 rfl (fun W hSW=>by (try dsimp only at hSW);go_simp;rw []) hHeld ?_
         refine tM 28 rfl (fun W hSW=>by (try dsimp only at hSW);go_simp;rw []) hHeld ?_
         refine tM 29 rfl (fun W hSW=>by (try dsimp only at hSW);go_simp;rw []) hHeld ?_
         refine tM 30 rfl (fun W hSW=>by (try dsimp only at hSW);go_simp;rw []) hHeld ?_
         refine tM 31 rfl (fun W hSW=>by (try dsimp only at hSW);have hq:=HKC2.out W hSW;go_simp;rw []) hHeld ?_
         refine tL (i:=32) (v:=.bool false) rfl (Or.inl ⟨by rfl,fun W hSW => ?y32⟩) hHeld ?_
         case y32=>(try dsimp only at hSW);go_simp;rw []
         simp only [Act.put,sA,sZ,sS]
         refine tL (i:=33) (v:=.bool false) rfl (Or.inl ⟨by rfl,fun W hSW => ?y33⟩) hHeld ?_
         case y33=>(try dsimp only at hSW);go_simp;rw []
         simp only [Act.put,sA,sZ,sS]
         refine wpAnyH_done (by kernel_rfl) ?_ _
         have HV3:Hid (wd.drew.ownsRow wo.heap.size 35 6 u14 (prow L n d k e (i+1)).length (mtsC (prow L n d k e (i+1)))):=by
          show World.ownsRow _ _ _ _ _ _ _
          rw [prow_snoc,HPC.out]
          simpa using owns_kp HVD.out ((Kp.refl (fun _=>False) _).drew) (fun _ _ h=>h)
         have HK3:Hid (Nw wo wd.drew):=HKD.out.drew
         clear HVD HKD
         go_wp2
         go_roundg (k - (i+1))
         case measure=>rw [HIM.out];omega
         case rel=>exact ⟨i+1,by simp,rfl,by omega,fun h=>absurd hk1 h,HV3.out,HK3.out⟩
       ·have hin:=hin1 hx1
        have HPC:Hid (pcond L n d e i=false):=by show _=_;simp only [pcond,HEI.out,hk1];simp;intros;first|omega|contradiction|(simp_all;done)|(simp_all;omega)
        go_wp2
        refine wp_region_held_drew (S:=fun W=>Nw wr W) (by kernel_rfl) ((Kp.refl _ _).drew) (fun hHeld => ?_)
        refine tM 0 rfl (fun W hSW=>by (try dsimp only at hSW);go_simp;rw []) hHeld ?_
        refine tM 1 rfl (fun W hSW=>by (try dsimp only at hSW);go_simp;rw []) hHeld ?_
        refine tM 2 rfl (fun W hSW=>by (try dsimp only at hSW);go_simp;rw []) hHeld ?_
        refine tM 3 rfl (fun W hSW=>by (try dsimp only at hSW);go_simp;rw []) hHeld ?_
        refine tM 4 rfl (fun W hSW=>by (try dsimp only at hSW);have hq:=HKC.out W hSW;go_simp;rw []) hHeld ?_
        refine tM 5 rfl (fun W hSW=>by (try dsimp only at hSW);go_simp;rw []) hHeld ?_
        refine tM 6 rfl (fun W hSW=>by (try dsimp only at hSW);go_simp;rw []) hHeld ?_
        refine tM 7 rfl (fun W hSW=>by (try dsimp only at hSW);go_simp;rw []) hHeld ?_
        refine tM 8 rfl (fun W hSW=>by (try dsimp only at hSW);go_simp;rw []) hHeld ?_
        refine tM 9 rfl (fun W hSW=>by (try dsimp only at hSW);have hq:=HIC.out W hSW;go_simp;rw []) hHeld ?_
        refine tM 10 rfl (fun W hSW=>by (try dsimp only at hSW);go_simp;rw []) hHeld ?_
        refine tM 11 rfl (fun W hSW=>by (try dsimp only at hSW);go_simp;rw []) hHeld ?_
        refine tL (i:=12) (v:=.bool true) rfl (Or.inl ⟨by rfl,fun W hSW => ?y12⟩) hHeld ?_
        case y12=>(try dsimp only at hSW);go_simp;rw []
        simp only [Act.put,sA,sZ,sS]
        refine tM 13 rfl (fun W hSW=>by (try dsimp only at hSW);go_simp;rw []) hHeld ?_
        refine wpAnyH_done (by kernel_rfl) ?_ _
        have KD:Hid (Nw wr wr.drew):=(Kp.refl _ _).drew
        have HKD:Hid (Nw wo wr.drew):=HK2.out.trans KD.out
        have HVD:Hid (wr.drew.ownsRow wo.heap.size 35 6 u14 (prow L n d k e i).length (mtsC (prow L n d k e i))):=owns_kp HV.out KD.out (fun _ _ h=>h)
        have HKC2:Hid (∀W,Nw wr.drew W→W.cell? ⟨ge,k*5,none⟩=some (.int .i64 e.at')∧W.cell? ⟨ge,k*5+1,none⟩=some (.int .i64 e.kind)∧W.cell? ⟨ge,k*5+2,none⟩=some (.int .i64 e.x)):=fun W kW=>HKC.out W (KD.out.trans kW)
        have HIC2:Hid (∀W,Nw wr.drew W→W.cell? ⟨ge,i*5,none⟩=some (.int .i64 ei.at')∧W.cell? ⟨ge,i*5+1,none⟩=some (.int .i64 ei.kind)∧W.cell? ⟨ge,i*5+2,none⟩=some (.int .i64 ei.x)):=fun W kW=>HIC.out W (KD.out.trans kW)
        have hwd:wo.heap.size≤wr.drew.heap.size:=Nat.le_trans hwo KD.out.size
        clear HKC HIC qk HV HK2 KD hwo
        generalize wr.drew=wd at *
        go_wp2
        refine wp_region_held_drew (S:=fun W=>Nw wd W) (by kernel_rfl) ((Kp.refl _ _).drew) (fun hHeld => ?_)
        refine tM 0 rfl (fun W hSW=>by (try dsimp only at hSW);go_simp;rw []) hHeld ?_
        refine tM 1 rfl (fun W hSW=>by (try dsimp only at hSW);go_simp;rw []) hHeld ?_
        refine tM 2 rfl (fun W hSW=>by (try dsimp only at hSW);go_simp;rw []) hHeld ?_
        refine tM 3 rfl (fun W hSW=>by (try dsimp only at hSW);go_simp;rw []) hHeld ?_
        refine tM 4 rfl (fun W hSW=>by (try dsimp only at hSW);have hq:=HIC2.out W hSW;go_simp;rw []) hHeld ?_
        refine tL (i:=5) (v:=.bool true) rfl (Or.inl ⟨by rfl,fun W hSW => ?y5⟩) hHeld ?_
        case y5=>(try dsimp only at hSW);go_simp;rw []
        simp only [Act.put,sA,sZ,sS]
        refine tM 6 rfl (fun W hSW=>by (try dsimp only at hSW);go_simp;rw []) hHeld ?_
        refine tM 7 rfl (fun W hSW=>by (try dsimp only at hSW);go_simp;rw []) hHeld ?_
        refine tL (i:=8) (v:=.bool true) rfl (Or.inl ⟨by rfl,fun W hSW => ?y8⟩) hHeld ?_
        case y8=>(try dsimp only at hSW);go_simp;rw []
        simp only [Act.put,sA,sZ,sS]
        refine tM 9 rfl (fun W hSW=>by (try dsimp only at hSW);go_simp;rw []) hHeld ?_
        refine tM 10 rfl (fun W hSW=>by (try dsimp only at hSW);go_simp;rw []) hHeld ?_
        refine tM 11 rfl (fun W hSW=>by (try dsimp only at hSW);go_simp;rw []) hHeld ?_
        refine tM 12 rfl (fun W hSW=>by (try dsimp only at hSW);go_simp;rw []) hHeld ?_
        refine tM 13 rfl (fun W hSW=>by (try dsimp only at hSW);go_simp;rw []) hHeld ?_
        refine tM 14 rfl (fun W hSW=>by (try dsimp only at hSW);have hq:=HIC2.out W hSW;go_simp;rw []) hHeld ?_
        refine tM 15 rfl (fun W hSW=>by (try dsimp only at hSW);go_simp;rw []) hHeld ?_
        refine tM 16 rfl (fun W hSW=>by (try dsimp only at hSW);go_simp;rw []) hHeld ?_
        refine tL (i:=17) (v:=.bool false) rfl (Or.inl ⟨by rfl,fun W hSW => ?y17⟩) hHeld ?_
        case y17=>(try dsimp only at hSW);go_simp;rw []
        simp only [Act.put,sA,sZ,sS]
        refine tL (i:=18) (v:=.bool false) rfl (Or.inl ⟨by rfl,fun W hSW => ?y18⟩) hHeld ?_
        case y18=>(try dsimp only at hSW);go_simp;rw []
        simp only [Act.put,sA,sZ,sS]
        refine tM 19 rfl (fun W hSW=>by (try dsimp only at hSW);go_simp;rw []) hHeld ?_
        refine tN (i:=20) (v:=undef) rfl (Or.inr ⟨by rfl,rfl⟩) hHeld ?_
        refine tN (i:=21) (v:=undef) rfl (Or.inr ⟨by rfl,rfl⟩) hHeld ?_
        refine tN (i:=22) (v:=undef) rfl (Or.inr ⟨by rfl,rfl⟩) hHeld ?_
        refine tN (i:=23) (v:=undef) rfl (Or.inr ⟨by rfl,rfl⟩) hHeld ?_
        refine tN (i:=24) (v:=undef) rfl (Or.inr ⟨by rfl,rfl⟩) hHeld ?_
        refine tN (i:=25) (v:=undef) rfl (Or.inr ⟨by rfl,rfl⟩) hHeld ?_
        refine tN (i:=26) (v:=undef) rfl (Or.inr ⟨by rfl,rfl⟩) hHeld ?_
        refine tN (i:=27) (v:=undef) rfl (Or.inr ⟨by rfl,rfl⟩) hHeld ?_
        refine tN (i:=28) (v:=undef) rfl (Or.inr ⟨by rfl,rfl⟩) hHeld ?_
        refine tN (i:=29) (v:=undef) rfl (Or.inr ⟨by rfl,rfl⟩) hHeld ?_
        refine tN (i:=30) (v:=undef) rfl (Or.inr ⟨by rfl,rfl⟩) hHeld ?_
        refine tN (i:=31) (v:=undef) rfl (Or.inr ⟨by rfl,rfl⟩) hHeld ?_
        refine tN (i:=32) (v:=undef) rfl (Or.inr ⟨by rfl,rfl⟩) hHeld ?_
        refine tL (i:=33) (v:=.bool false) rfl (Or.inl ⟨by rfl,fun W hSW => ?y33⟩) hHeld ?_
        case y33=>(try dsimp only at hSW);go_simp;rw []
        simp only [Act.put,sA,sZ,sS]
        refine wpAnyH_done (by kernel_rfl) ?_ _
        have HV3:Hid (wd.drew.ownsRow wo.heap.size 35 6 u14 (prow L n d k e (i+1)).length (mtsC (prow L n d k e (i+1)))):=by
         show World.ownsRow _ _ _ _ _ _ _
         rw [prow_snoc,HPC.out]
         simpa using owns_kp HVD.out ((Kp.refl (fun _=>False) _).drew) (fun _ _ h=>h)
        have HK3:Hid (Nw wo wd.drew):=HKD.out.drew
        clear HVD HKD
        go_wp2
        go_roundg (k - (i+1))
        case measure=>rw [HIM.out];omega
        case rel=>exact ⟨i+1,by simp,rfl,by omega,fun h=>absurd hk1 h,HV3.out,HK3.out⟩
      ·have hkb:(ei.kind == 0)=false:=by simp [hkd]
       have HPC:Hid (pcond L n d e i=false):=by show _=_;simp only [pcond,HEI.out,hk1];simp;intros;first|omega|contradiction|(simp_all;done)|(simp_all;omega)
       go_wp2
       refine wp_region_held_drew (S:=fun W=>Nw wr W) (by kernel_rfl) ((Kp.refl _ _).drew) (fun hHeld => ?_)
       refine tM 0 rfl (fun W hSW=>by (try dsimp only at hSW);go_simp;rw []) hHeld ?_
       refine tM 1 rfl (fun W hSW=>by (try dsimp only at hSW);go_simp;rw []) hHeld ?_
       refine tM 2 rfl (fun W hSW=>by (try dsimp only at hSW);go_simp;rw []) hHeld ?_
       refine tM 3 rfl (fun W hSW=>by (try dsimp only at hSW);go_simp;rw []) hHeld ?_
       refine tM 4 rfl (fun W hSW=>by (try dsimp only at hSW);have hq:=HKC.out W hSW;go_simp;rw []) hHeld ?_
       refine tM 5 rfl (fun W hSW=>by (try dsimp only at hSW);go_simp;rw []) hHeld ?_
       refine tM 6 rfl (fun W hSW=>by (try dsimp only at hSW);go_simp;rw []) hHeld ?_
       refine tM 7 rfl (fun W hSW=>by (try dsimp only at hSW);go_simp;rw []) hHeld ?_
       refine tM 8 rfl (fun W hSW=>by (try dsimp only at hSW);go_simp;rw []) hHeld ?_
       refine tM 9 rfl (fun W hSW=>by (try dsimp only at hSW);have hq:=HIC.out W hSW;go_simp;rw []) hHeld ?_
       refine tM 10 rfl (fun W hSW=>by (try dsimp only at hSW);go_simp;rw []) hHeld ?_
       refine tM 11 rfl (fun W hSW=>by (try dsimp only at hSW);go_simp;rw []) hHeld ?_
       refine tL (i:=12) (v:=.bool true) rfl (Or.inl ⟨by rfl,fun W hSW => ?y12⟩) hHeld ?_
       case y12=>(try dsimp only at hSW);go_simp;rw []
       simp only [Act.put,sA,sZ,sS]
       refine tM 13 rfl (fun W hSW=>by (try dsimp only at hSW);go_simp;rw []) hHeld ?_
       refine wpAnyH_done (by kernel_rfl) ?_ _
       have KD:Hid (Nw wr wr.drew):=(Kp.refl _ _).drew
       have HKD:Hid (Nw wo wr.drew):=HK2.out.trans KD.out
       have HVD:Hid (wr.drew.ownsRow wo.heap.size 35 6 u14 (prow L n d k e i).length (mtsC (prow L n d k e i))):=owns_kp HV.out KD.out (fun _ _ h=>h)
       have HKC2:Hid (∀W,Nw wr.drew W→W.cell? ⟨ge,k*5,none⟩=some (.int .i64 e.at')∧W.cell? ⟨ge,k*5+1,none⟩=some (.int .i64 e.kind)∧W.cell? ⟨ge,k*5+2,none⟩=some (.int .i64 e.x)):=fun W kW=>HKC.out W (KD.out.trans kW)
       have HIC2:Hid (∀W,Nw wr.drew W→W.cell? ⟨ge,i*5,none⟩=some (.int .i64 ei.at')∧W.cell? ⟨ge,i*5+1,none⟩=some (.int .i64 ei.kind)∧W.cell? ⟨ge,i*5+2,none⟩=some (.int .i64 ei.x)):=fun W kW=>HIC.out W (KD.out.trans kW)
       have hwd:wo.heap.size≤wr.drew.heap.size:=Nat.le_trans hwo KD.out.size
       clear HKC HIC qk HV HK2 KD hwo
       generalize wr.drew=wd at *
       go_wp2
       refine wp_region_held_drew (S:=fun W=>Nw wd W) (by kernel_rfl) ((Kp.refl _ _).drew) (fun hHeld => ?_)
       refine tM 0 rfl (fun W hSW=>by (try dsimp only at hSW);go_simp;rw []) hHeld ?_
       refine tM 1 rfl (fun W hSW=>by (try dsimp only at hSW);go_simp;rw []) hHeld ?_
       refine tM 2 rfl (fun W hSW=>by (try dsimp only at hSW);go_simp;rw []) hHeld ?_
       refine tM 3 rfl (fun W hSW=>by (try dsimp only at hSW);go_simp;rw []) hHeld ?_
       refine tM 4 rfl (fun W hSW=>by (try dsimp only at hSW);have hq:=HIC2.out W hSW;go_simp;rw []) hHeld ?_
       refine tL (i:=5) (v:=.bool false) rfl (Or.inl ⟨by rfl,fun W hSW => ?y5⟩) hHeld ?_
       case y5=>(try dsimp only at hSW);go_simp;rw []
       simp only [Act.put,sA,sZ,sS]
       refine tM 6 rfl (fun W hSW=>by (try dsimp only at hSW);go_simp;rw []) hHeld ?_
       refine tN (i:=7) (v:=undef) rfl (Or.inr ⟨by rfl,rfl⟩) hHeld ?_
       refine tL (i:=8) (v:=.bool false) rfl (Or.inl ⟨by rfl,fun W hSW => ?y8⟩) hHeld ?_
       case y8=>(try dsimp only at hSW);go_simp;rw []
       simp only [Act.put,sA,sZ,sS]
       refine tM 9 rfl (fun W hSW=>by (try dsimp only at hSW);go_simp;rw []) hHeld ?_
       refine tN (i:=10) (v:=undef) rfl (Or.inr ⟨by rfl,rfl⟩) hHeld ?_
       refine tN (i:=11) (v:=undef) rfl (Or.inr ⟨by rfl,rfl⟩) hHeld ?_
       refine tN (i:=12) (v:=undef) rfl (Or.inr ⟨by rfl,rfl⟩) hHeld ?_
       refine tN (i:=13) (v:=undef) rfl (Or.inr ⟨by rfl,rfl⟩) hHeld ?_
       refine tN (i:=14) (v:=undef) rfl (Or.inr ⟨by rfl,rfl⟩) hHeld ?_
       refine tN (i:=15) (v:=undef) rfl (Or.inr ⟨by rfl,rfl⟩) hHeld ?_
       refine tN (i:=16) (v:=undef) rfl (Or.inr ⟨by rfl,rfl⟩) hHeld ?_
       refine tN (i:=17) (v:=undef) rfl (Or.inr ⟨by rfl,rfl⟩) hHeld ?_
       refine tL (i:=18) (v:=.bool false) rfl (Or.inl ⟨by rfl,fun W hSW => ?y18⟩) hHeld ?_
       case y18=>(try dsimp only at hSW);go_simp;rw []
       simp only [Act.put,sA,sZ,sS]
       refine tM 19 rfl (fun W hSW=>by (try dsimp only at hSW);go_simp;rw []) hHeld ?_
       refine tN (i:=20) (v:=undef) rfl (Or.inr ⟨by rfl,rfl⟩) hHeld ?_
       refine tN (i:=21) (v:=undef) rfl (Or.inr ⟨by rfl,rfl⟩) hHeld ?_
       refine tN (i:=22) (v:=undef) rfl (Or.inr ⟨by rfl,rfl⟩) hHeld ?_
       refine tN (i:=23) (v:=undef) rfl (Or.inr ⟨by rfl,rfl⟩) hHeld ?_
       refine tN (i:=24) (v:=undef) rfl (Or.inr ⟨by rfl,rfl⟩) hHeld ?_
       refine tN (i:=25) (v:=undef) rfl (Or.inr ⟨by rfl,rfl⟩) hHeld ?_
       refine tN (i:=26) (v:=undef) rfl (Or.inr ⟨by rfl,rfl⟩) hHeld ?_
       refine tN (i:=27) (v:=undef) rfl (Or.inr ⟨by rfl,rfl⟩) hHeld ?_
       refine tN (i:=28) (v:=undef) rfl (Or.inr ⟨by rfl,rfl⟩) hHeld ?_
       refine tN (i:=29) (v:=undef) rfl (Or.inr ⟨by rfl,rfl⟩) hHeld ?_
       refine tN (i:=30) (v:=undef) rfl (Or.inr ⟨by rfl,rfl⟩) hHeld ?_
       refine tN (i:=31) (v:=undef) rfl (Or.inr ⟨by rfl,rfl⟩) hHeld ?_
       refine tN (i:=32) (v:=undef) rfl (Or.inr ⟨by rfl,rfl⟩) hHeld ?_
       refine tL (i:=33) (v:=.bool false) rfl (Or.inl ⟨by rfl,fun W hSW => ?y33⟩) hHeld ?_
       case y33=>(try dsimp only at hSW);go_simp;rw []
       simp only [Act.put,sA,sZ,sS]
       refine wpAnyH_done (by kernel_rfl) ?_ _
       have HV3:Hid (wd.drew.ownsRow wo.heap.size 35 6 u14 (prow L n d k e (i+1)).length (mtsC (prow L n d k e (i+1)))):=by
        show World.ownsRow _ _ _ _ _ _ _
        rw [prow_snoc,HPC.out]
        simpa using owns_kp HVD.out ((Kp.refl (fun _=>False) _).drew) (fun _ _ h=>h)
       have HK3:Hid (Nw wo wd.drew):=HKD.out.drew
       clear HVD HKD
       go_wp2
       go_roundg (k - (i+1))
       case measure=>rw [HIM.out];omega
       case rel=>exact ⟨i+1,by simp,rfl,by omega,fun h=>absurd hk1 h,HV3.out,HK3.out⟩
     ·by_cases hkd:ei.kind=0
      ·have hkb:(ei.kind == 0)=true:=by simp [hkd]
       have HPC:Hid (pcond L n d e i=false):=by show _=_;simp only [pcond,HEI.out,hk1];simp;intros;first|omega|contradiction|(simp_all;done)|(simp_all;omega)
       go_wp2
       refine wp_region_held_drew (S:=fun W=>Nw wr W) (by kernel_rfl) ((Kp.refl _ _).drew) (fun hHeld => ?_)
       refine tM 0 rfl (fun W hSW=>by (try dsimp only at hSW);go_simp;rw []) hHeld ?_
       refine tM 1 rfl (fun W hSW=>by (try dsimp only at hSW);go_simp;rw []) hHeld ?_
       refine tM 2 rfl (fun W hSW=>by (try dsimp only at hSW);go_simp;rw []) hHeld ?_
       refine tM 3 rfl (fun W hSW=>by (try dsimp only at hSW);go_simp;rw []) hHeld ?_
       refine tM 4 rfl (fun W hSW=>by (try dsimp only at hSW);have hq:=HKC.out W hSW;go_simp;rw []) hHeld ?_
       refine tM 5 rfl (fun W hSW=>by (try dsimp only at hSW);go_simp;rw []) hHeld ?_
       refine tM 6 rfl (fun W hSW=>by (try dsimp only at hSW);go_simp;rw []) hHeld ?_
       refine tM 7 rfl (fun W hSW=>by (try dsimp only at hSW);go_simp;rw []) hHeld ?_
       refine tM 8 rfl (fun W hSW=>by (try dsimp only at hSW);go_simp;rw []) hHeld ?_
       refine tM 9 rfl (fun W hSW=>by (try dsimp only at hSW);have hq:=HIC.out W hSW;go_simp;rw []) hHeld ?_
       refine tM 10 rfl (fun W hSW=>by (try dsimp only at hSW);go_simp;rw []) hHeld ?_
       refine tM 11 rfl (fun W hSW=>by (try dsimp only at hSW);go_simp;rw []) hHeld ?_
       refine tL (i:=12) (v:=.bool false) rfl (Or.inl ⟨by rfl,fun W hSW => ?y12⟩) hHeld ?_
       case y12=>(try dsimp only at hSW);go_simp;rw []
       simp only [Act.put,sA,sZ,sS]
       refine tM 13 rfl (fun W hSW=>by (try dsimp only at hSW);go_simp;rw []) hHeld ?_
       refine wpAnyH_done (by kernel_rfl) ?_ _
       have KD:Hid (Nw wr wr.drew):=(Kp.refl _ _).drew
       have HKD:Hid (Nw wo wr.drew):=HK2.out.trans KD.out
       have HVD:Hid (wr.drew.ownsRow wo.heap.size 35 6 u14 (prow L n d k e i).length (mtsC (prow L n d k e i))):=owns_kp HV.out KD.out (fun _ _ h=>h)
       have HKC2:Hid (∀W,Nw wr.drew W→W.cell? ⟨ge,k*5,none⟩=some (.int .i64 e.at')∧W.cell? ⟨ge,k*5+1,none⟩=some (.int .i64 e.kind)∧W.cell? ⟨ge,k*5+2,none⟩=some (.int .i64 e.x)):=fun W kW=>HKC.out W (KD.out.trans kW)
       have HIC2:Hid (∀W,Nw wr.drew W→W.cell? ⟨ge,i*5,none⟩=some (.int .i64 ei.at')∧W.cell? ⟨ge,i*5+1,none⟩=some (.int .i64 ei.kind)∧W.cell? ⟨ge,i*5+2,none⟩=some (.int .i64 ei.x)):=fun W kW=>HIC.out W (KD.out.trans kW)
       have hwd:wo.heap.size≤wr.drew.heap.size:=Nat.le_trans hwo KD.out.size
       clear HKC HIC qk HV HK2 KD hwo
       generalize wr.drew=wd at *
       go_wp2
       refine wp_region_held_drew (S:=fun W=>Nw wd W) (by kernel_rfl) ((Kp.refl _ _).drew) (fun hHeld => ?_)
       refine tM 0 rfl (fun W hSW=>by (try dsimp only at hSW);go_simp;rw []) hHeld ?_
       refine tM 1 rfl (fun W hSW=>by (try dsimp only at hSW);go_simp;rw []) hHeld ?_
       refine tM 2 rfl (fun W hSW=>by (try dsimp only at hSW);go_simp;rw []) hHeld ?_
       refine tM 3 rfl (fun W hSW=>by (try dsimp only at hSW);go_simp;rw []) hHeld ?_
       refine tM 4 rfl (fun W hSW=>by (try dsimp only at hSW);have hq:=HIC2.out W hSW;go_simp;rw []) hHeld ?_
       refine tL (i:=5) (v:=.bool true) rfl (Or.inl ⟨by rfl,fun W hSW => ?y5⟩) hHeld ?_
       case y5=>(try dsimp only at hSW);go_simp;rw []
       simp only [Act.put,sA,sZ,sS]
       refine tM 6 rfl (fun W hSW=>by (try dsimp only at hSW);go_simp;rw []) hHeld ?_
       refine tM 7 rfl (fun W hSW=>by (try dsimp only at hSW);go_simp;rw []) hHeld ?_
       refine tL (i:=8) (v:=.bool false) rfl (Or.inl ⟨by rfl,fun W hSW => ?y8⟩) hHeld ?_
       case y8=>(try dsimp only at hSW);go_simp;rw []
       simp only [Act.put,sA,sZ,sS]
       refine tM 9 rfl (fun W hSW=>by (try dsimp only at hSW);go_simp;rw []) hHeld ?_
       refine tN (i:=10) (v:=undef) rfl (Or.inr ⟨by rfl,rfl⟩) hHeld ?_
       refine tN (i:=11) (v:=undef) rfl (Or.inr ⟨by rfl,rfl⟩) hHeld ?_
       refine tN (i:=12) (v:=undef) rfl (Or.inr ⟨by rfl,rfl⟩) hHeld ?_
       refine tN (i:=13) (v:=undef) rfl (Or.inr ⟨by rfl,rfl⟩) hHeld ?_
       refine tN (i:=14) (v:=undef) rfl (Or.inr ⟨by rfl,rfl⟩) hHeld ?_
       refine tN (i:=15) (v:=undef) rfl (Or.inr ⟨by rfl,rfl⟩) hHeld ?_
       refine tN (i:=16) (v:=undef) rfl (Or.inr ⟨by rfl,rfl⟩) hHeld ?_
       refine tN (i:=17) (v:=undef) rfl (Or.inr ⟨by rfl,rfl⟩) hHeld ?_
       refine tL (i:=18) (v:=.bool false) rfl (Or.inl ⟨by rfl,fun W hSW => ?y18⟩) hHeld ?_
       case y18=>(try dsimp only at hSW);go_simp;rw []
       simp only [Act.put,sA,sZ,sS]
       refine tM 19 rfl (fun W hSW=>by (try dsimp only at hSW);go_simp;rw []) hHeld ?_
       refine tN (i:=20) (v:=undef) rfl (Or.inr ⟨by rfl,rfl⟩) hHeld ?_
       refine tN (i:=21) (v:=undef) rfl (Or.inr ⟨by rfl,rfl⟩) hHeld ?_
       refine tN (i:=22) (v:=undef) rfl (Or.inr ⟨by rfl,rfl⟩) hHeld ?_
       refine tN (i:=23) (v:=undef) rfl (Or.inr ⟨by rfl,rfl⟩) hHeld ?_
       refine tN (i:=24) (v:=undef) rfl (Or.inr ⟨by rfl,rfl⟩) hHeld ?_
       refine tN (i:=25) (v:=undef) rfl (Or.inr ⟨by rfl,rfl⟩) hHeld ?_
       refine tN (i:=26) (v:=undef) rfl (Or.inr ⟨by rfl,rfl⟩) hHeld ?_
       refine tN (i:=27) (v:=undef) rfl (Or.inr ⟨by rfl,rfl⟩) hHeld ?_
       refine tN (i:=28) (v:=undef) rfl (Or.inr ⟨by rfl,rfl⟩) hHeld ?_
       refine tN (i:=29) (v:=undef) rfl (Or.inr ⟨by rfl,rfl⟩) hHeld ?_
       refine tN (i:=30) (v:=undef) rfl (Or.inr ⟨by rfl,rfl⟩) hHeld ?_
       refine tN (i:=31) (v:=undef) rfl (Or.inr ⟨by rfl,rfl⟩) hHeld ?_
       refine tN (i:=32) (v:=undef) rfl (Or.inr ⟨by rfl,rfl⟩) hHeld ?_
       refine tL (i:=33) (v:=.bool false) rfl (Or.inl ⟨by rfl,fun W hSW => ?y33⟩) hHeld ?_
       case y33=>(try dsimp only at hSW);go_simp;rw []
       simp only [Act.put,sA,sZ,sS]
       refine wpAnyH_done (by kernel_rfl) ?_ _
       have HV3:Hid (wd.drew.ownsRow wo.heap.size 35 6 u14 (prow L n d k e (i+1)).length (mtsC (prow L n d k e (i+1)))):=by
        show World.ownsRow _ _ _ _ _ _ _
        rw [prow_snoc,HPC.out]
        simpa using owns_kp HVD.out ((Kp.refl (fun _=>False) _).drew) (fun _ _ h=>h)
       have HK3:Hid (Nw wo wd.drew):=HKD.out.drew
       clear HVD HKD
       go_wp2
       go_roundg (k - (i+1))
       case measure=>rw [HIM.out];omega
       case rel=>exact ⟨i+1,by simp,rfl,by omega,fun h=>absurd hk1 h,HV3.out,HK3.out⟩
      ·have hkb:(ei.kind == 0)=false:=by simp [hkd]
       have HPC:Hid (pcond L n d e i=false):=by show _=_;simp only [pcond,HEI.out,hk1];simp;intros;first|omega|contradiction|(simp_all;done)|(simp_all;omega)
       go_wp2
       refine wp_region_held_drew (S:=fun W=>Nw wr W) (by kernel_rfl) ((Kp.refl _ _).drew) (fun hHeld => ?_)
       refine tM 0 rfl (fun W hSW=>by (try dsimp only at hSW);go_simp;rw []) hHeld ?_
       refine tM 1 rfl (fun W hSW=>by (try dsimp only at hSW);go_simp;rw []) hHeld ?_
       refine tM 2 rfl (fun W hSW=>by (try dsimp only at hSW);go_simp;rw []) hHeld ?_
       refine tM 3 rfl (fun W hSW=>by (try dsimp only at hSW);go_simp;rw []) hHeld ?_
       refine tM 4 rfl (fun W hSW=>by (try dsimp only at hSW);have hq:=HKC.out W hSW;go_simp;rw []) hHeld ?_
       refine tM 5 rfl (fun W hSW=>by (try dsimp only at hSW);go_simp;rw []) hHeld ?_
       refine tM 6 rfl (fun W hSW=>by (try dsimp only at hSW);go_simp;rw []) hHeld ?_
       refine tM 7 rfl (fun W hSW=>by (try dsimp only at hSW);go_simp;rw []) hHeld ?_
       refine tM 8 rfl (fun W hSW=>by (try dsimp only at hSW);go_simp;rw []) hHeld ?_
       refine tM 9 rfl (fun W hSW=>by (try dsimp only at hSW);have hq:=HIC.out W hSW;go_simp;rw []) hHeld ?_
       refine tM 10 rfl (fun W hSW=>by (try dsimp only at hSW);go_simp;rw []) hHeld ?_
       refine tM 11 rfl (fun W hSW=>by (try dsimp only at hSW);go_simp;rw []) hHeld ?_
       refine tL (i:=12) (v:=.bool false) rfl (Or.inl ⟨by rfl,fun W hSW => ?y12⟩) hHeld ?_
       case y12=>(try dsimp only at hSW);go_simp;rw []
       simp only [Act.put,sA,sZ,sS]
       refine tM 13 rfl (fun W hSW=>by (try dsimp only at hSW);go_simp;rw []) hHeld ?_
       refine wpAnyH_done (by kernel_rfl) ?_ _
       have KD:Hid (Nw wr wr.drew):=(Kp.refl _ _).drew
       have HKD:Hid (Nw wo wr.drew):=HK2.out.trans KD.out
       have HVD:Hid (wr.drew.ownsRow wo.heap.size 35 6 u14 (prow L n d k e i).length (mtsC (prow L n d k e i))):=owns_kp HV.out KD.out (fun _ _ h=>h)
       have HKC2:Hid (∀W,Nw wr.drew W→W.cell? ⟨ge,k*5,none⟩=some (.int .i64 e.at')∧W.cell? ⟨ge,k*5+1,none⟩=some (.int .i64 e.kind)∧W.cell? ⟨ge,k*5+2,none⟩=some (.int .i64 e.x)):=fun W kW=>HKC.out W (KD.out.trans kW)
       have HIC2:Hid (∀W,Nw wr.drew W→W.cell? ⟨ge,i*5,none⟩=some (.int .i64 ei.at')∧W.cell? ⟨ge,i*5+1,none⟩=some (.int .i64 ei.kind)∧W.cell? ⟨ge,i*5+2,none⟩=some (.int .i64 ei.x)):=fun W kW=>HIC.out W (KD.out.trans kW)
       have hwd:wo.heap.size≤wr.drew.heap.size:=Nat.le_trans hwo KD.out.size
       clear HKC HIC qk HV HK2 KD hwo
       generalize wr.drew=wd at *
       go_wp2
       refine wp_region_held_drew (S:=fun W=>Nw wd W) (by kernel_rfl) ((Kp.refl _ _).drew) (fun hHeld => ?_)
       refine tM 0 rfl (fun W hSW=>by (try dsimp only at hSW);go_simp;rw []) hHeld ?_
       refine tM 1 rfl (fun W hSW=>by (try dsimp only at hSW);go_simp;rw []) hHeld ?_
       refine tM 2 rfl (fun W hSW=>by (try dsimp only at hSW);go_simp;rw []) hHeld ?_
       refine tM 3 rfl (fun W hSW=>by (try dsimp only at hSW);go_simp;rw []) hHeld ?_
       refine tM 4 rfl (fun W hSW=>by (try dsimp only at hSW);have hq:=HIC2.out W hSW;go_simp;rw []) hHeld ?_
       refine tL (i:=5) (v:=.bool false) rfl (Or.inl ⟨by rfl,fun W hSW => ?y5⟩) hHeld ?_
       case y5=>(try dsimp only at hSW);go_simp;rw []
       simp only [Act.put,sA,sZ,sS]
       refine tM 6 rfl (fun W hSW=>by (try dsimp only at hSW);go_simp;rw []) hHeld ?_
       refine tN (i:=7) (v:=undef) rfl (Or.inr ⟨by rfl,rfl⟩) hHeld ?_
       refine tL (i:=8) (v:=.bool false) rfl (Or.inl ⟨by rfl,fun W hSW => ?y8⟩) hHeld ?_
       case y8=>(try dsimp only at hSW);go_simp;rw []
       simp only [Act.put,sA,sZ,sS]
       refine tM 9 rfl (fun W hSW=>by (try dsimp only at hSW);go_simp;rw []) hHeld ?_
       refine tN (i:=10) (v:=undef) rfl (Or.inr ⟨by rfl,rfl⟩) hHeld ?_
       refine tN (i:=11) (v:=undef) rfl (Or.inr ⟨by rfl,rfl⟩) hHeld ?_
       refine tN (i:=12) (v:=undef) rfl (Or.inr ⟨by rfl,rfl⟩) hHeld ?_
       refine tN (i:=13) (v:=undef) rfl (Or.inr ⟨by rfl,rfl⟩) hHeld ?_
       refine tN (i:=14) (v:=undef) rfl (Or.inr ⟨by rfl,rfl⟩) hHeld ?_
       refine tN (i:=15) (v:=undef) rfl (Or.inr ⟨by rfl,rfl⟩) hHeld ?_
       refine tN (i:=16) (v:=undef) rfl (Or.inr ⟨by rfl,rfl⟩) hHeld ?_
       refine tN (i:=17) (v:=undef) rfl (Or.inr ⟨by rfl,rfl⟩) hHeld ?_
       refine tL (i:=18) (v:=.bool false) rfl (Or.inl ⟨by rfl,fun W hSW => ?y18⟩) hHeld ?_
       case y18=>(try dsimp only at hSW);go_simp;rw []
       simp only [Act.put,sA,sZ,sS]
       refine tM 19 rfl (fun W hSW=>by (try dsimp only at hSW);go_simp;rw []) hHeld ?_
       refine tN (i:=20) (v:=undef) rfl (Or.inr ⟨by rfl,rfl⟩) hHeld ?_
       refine tN (i:=21) (v:=undef) rfl (Or.inr ⟨by rfl,rfl⟩) hHeld ?_
       refine tN (i:=22) (v:=undef) rfl (Or.inr ⟨by rfl,rfl⟩) hHeld ?_
       refine tN (i:=23) (v:=undef) rfl (Or.inr ⟨by rfl,rfl⟩) hHeld ?_
       refine tN (i:=24) (v:=undef) rfl (Or.inr ⟨by rfl,rfl⟩) hHeld ?_
       refine tN (i:=25) (v:=undef) rfl (Or.inr ⟨by rfl,rfl⟩) hHeld ?_
       refine tN (i:=26) (v:=undef) rfl (Or.inr ⟨by rfl,rfl⟩) hHeld ?_
       refine tN (i:=27) (v:=undef) rfl (Or.inr ⟨by rfl,rfl⟩) hHeld ?_
       refine tN (i:=28) (v:=undef) rfl (Or.inr ⟨by rfl,rfl⟩) hHeld ?_
       refine tN (i:=29) (v:=undef) rfl (Or.inr ⟨by rfl,rfl⟩) hHeld ?_
       refine tN (i:=30) (v:=undef) rfl (Or.inr ⟨by rfl,rfl⟩) hHeld ?_
       refine tN (i:=31) (v:=undef) rfl (Or.inr ⟨by rfl,rfl⟩) hHeld ?_
       refine tN (i:=32) (v:=undef) rfl (Or.inr ⟨by rfl,rfl⟩) hHeld ?_
       refine tL (i:=33) (v:=.bool false) rfl (Or.inl ⟨by rfl,fun W hSW => ?y33⟩) hHeld ?_
       case y33=>(try dsimp only at hSW);go_simp;rw []
       simp only [Act.put,sA,sZ,sS]
       refine wpAnyH_done (by kernel_rfl) ?_ _
       have HV3:Hid (wd.drew.ownsRow wo.heap.size 35 6 u14 (prow L n d k e (i+1)).length (mtsC (prow L n d k e (i+1)))):=by
        show World.ownsRow _ _ _ _ _ _ _
        rw [prow_snoc,HPC.out]
        simpa using owns_kp HVD.out ((Kp.refl (fun _=>False) _).drew) (fun _ _ h=>h)
       have HK3:Hid (Nw wo wd.drew):=HKD.out.drew
       clear HVD HKD
       go_wp2
       go_roundg (k - (i+1))
       case measure=>rw [HIM.out];omega
       case rel=>exact ⟨i+1,by simp,rfl,by omega,fun h=>absurd hk1 h,HV3.out,HK3.out⟩
    ·have HPE:Hid (prow L n d k e i=prow L n d k e k):=by
      show _=_
      by_cases h1:e.kind=1
      ·have:i=k:=by omega
       rw [this]
      ·rw [prow_no h1,prow_no h1]
     have HV2:Hid (wr.ownsRow wo.heap.size 35 6 u14 (prow L n d k e k).length (mtsC (prow L n d k e k))):=by have:=HV.out;rw [HPE.out] at this;exact this
     obtain ⟨vp,vc,hve⟩:=ownsLenX HV2.out
     subst hve
     have hpl:=prow_len L n d k e k
     have M3:Hid (Mds wr w6.heap.size u12 hs):=HM.out.kp HK2.out (fun _ _ _ h=>h)
     have hw6:w6.heap.size≤wo.heap.size:=HN.out.size
     have h06:0<w6.heap.size:=by
      obtain ⟨_,_,h,_⟩:=HE6.out w6 (Kp.refl _ _) (by intro e0;rw [e0] at hk;simp at hk)
      omega
     have HN3:Hid (Nw w6 wr):=HN.out.trans HK2.out
     clear HV HKC hk2 HPE
     by_cases hi:i<k
     ·have hii:(i:Int)<(k:Int):=by omega
      have hk1b:(e.kind == 1)=false:=by simp only [beq_eq_false_iff_ne,ne_eq];intro h;exact hgo ⟨hi,h⟩
      go_wp2_with (at_builtin;refine wpList_append_lies _ rfl _ _ 27 rfl w6.heap.size 30 i0 (.slice none 0 0) 1 24 Tryz.underSM hi0 hz0 hz1 hz2 rfl (by decide) _ _ _ rfl (M3.out.row.alloc _) ⟨wr.heap.size,0,none⟩ 1 1 [.slice vp (prow L n d k e k).length vc] rfl rfl ?c1 ?c2 (by decide) ?c3 ?c4 ?c5 _ rfl ?_)
      try (case c1=>exact news_one _ (by simp) _ _)
      case c2=>first|rfl|(intro u hu;simp at hu;subst hu;rfl)|(simp;done)
      case c3=>have:=HHL.out;unfold maxLen;omega
      case c4=>have:=HHL.out;omega
      case c5=>first|omega|(simp;done)|(simp;omega)
      intro g4 cap4 w4 hown4 hgrow4 hat4 hlt4
      have k34:Nw wr (wr.alloc (.cells #[.slice vp (prow L n d k e k).length vc] 30)):=(Kp.refl _ _).alloc _
      have M4:Hid (Mds w4 w6.heap.size (.slice (some ⟨g4,0,none⟩) (hs.length+1) cap4) (hs++[(.slice vp (prow L n d k e k).length vc,prow L n d k e k)])):=(M3.out.kp k34 (fun _ _ _ h=>h)).more h06 hgrow4 hown4 (ownsBaseX (owns_kp HV2.out k34 (fun _ _ h=>h)) hw6)
      have HK4:Hid (Nw w6 w4):=(HN3.out.alloc _).grown hgrow4 (fun b hb=>Or.inl (M3.out.row.lt b hb).1)
      have HQ4:Hid ((hs++[((.slice vp (prow L n d k e k).length vc:Value),prow L n d k e k)]).map (·.2)=(List.range (k+1)).map (fun i=>prow L n d i (evD L i) i)):=by
       show _=_
       rw [List.map_append,HHQ.out,List.range_succ,List.map_append]
       simp only [List.map_cons,List.map_nil,HED.out]
      clear hown4 hgrow4 hat4 k34
      go_wp2
      go_roundg (L.length - (k+1))
      case measure=>rw [HMM.out];omega
      case rel=>exact ⟨k+1,_,by simp,rfl,by omega,by simp [HHL.out],HQ4.out,M4.out,HK4.out⟩
     ·have hii:¬(i:Int)<(k:Int):=by omega
      go_wp2_with (at_builtin;refine wpList_append_lies _ rfl _ _ 27 rfl w6.heap.size 30 i0 (.slice none 0 0) 1 24 Tryz.underSM hi0 hz0 hz1 hz2 rfl (by decide) _ _ _ rfl (M3.out.row.alloc _) ⟨wr.heap.size,0,none⟩ 1 1 [.slice vp (prow L n d k e k).length vc] rfl rfl ?c1 ?c2 (by decide) ?c3 ?c4 ?c5 _ rfl ?_)
      try (case c1=>exact news_one _ (by simp) _ _)
      case c2=>first|rfl|(intro u hu;simp at hu;subst hu;rfl)|(simp;done)
      case c3=>have:=HHL.out;unfold maxLen;omega
      case c4=>have:=HHL.out;omega
      case c5=>first|omega|(simp;done)|(simp;omega)
      intro g4 cap4 w4 hown4 hgrow4 hat4 hlt4
      have k34:Nw wr (wr.alloc (.cells #[.slice vp (prow L n d k e k).length vc] 30)):=(Kp.refl _ _).alloc _
      have M4:Hid (Mds w4 w6.heap.size (.slice (some ⟨g4,0,none⟩) (hs.length+1) cap4) (hs++[(.slice vp (prow L n d k e k).length vc,prow L n d k e k)])):=(M3.out.kp k34 (fun _ _ _ h=>h)).more h06 hgrow4 hown4 (ownsBaseX (owns_kp HV2.out k34 (fun _ _ h=>h)) hw6)
      have HK4:Hid (Nw w6 w4):=(HN3.out.alloc _).grown hgrow4 (fun b hb=>Or.inl (M3.out.row.lt b hb).1)
      have HQ4:Hid ((hs++[((.slice vp (prow L n d k e k).length vc:Value),prow L n d k e k)]).map (·.2)=(List.range (k+1)).map (fun i=>prow L n d i (evD L i) i)):=by
       show _=_
       rw [List.map_append,HHQ.out,List.range_succ,List.map_append]
       simp only [List.map_cons,List.map_nil,HED.out]
      clear hown4 hgrow4 hat4 k34
      go_wp2
      go_roundg (L.length - (k+1))
      case measure=>rw [HMM.out];omega
      case rel=>exact ⟨k+1,_,by simp,rfl,by omega,by simp [HHL.out],HQ4.out,M4.out,HK4.out⟩
  ·have hkk:¬(k:Int)<L.length:=by omega
   have ek:k=L.length:=by omega
   obtain ⟨vp,vc,hve⟩:=ownsLenX HM.out.row
   subst hve
   have hle:hs.length=hs1.length:=by rw [HHL.out,ek,HN1.out]
   have HX:Hid (∀x∈hs1,x.2.length≤1000∧∀m∈x.2,MtOk m):=by
    intro x hx
    have hm:x.2∈hs1.map (·.2):=List.mem_map.2 ⟨x,hx,rfl⟩
    rw [HQ1.out] at hm
    obtain ⟨i,hi,he⟩:=List.mem_map.1 hm
    have hi2:=List.mem_range.1 hi
    rw [←he]
    exact ⟨by have:=prow_len L n d i (evD L i) i;omega,prow_ok L n d _ (by omega) (by omega)⟩
   have HS:Hid (Calls Tryz.prog 9 #[.slice vp1 hs1.length vc1,.slice vp hs1.length vc] wr fun e w'=>e=.returned (.bool true)∧Nw wr w'):=sameAll_same vp1 vp vc1 vc _ _ hs1 hs wr (M1.out.kp HN.out (fun _ _ _ h=>h)) (by rw [←hle];exact HM.out) (by rw [HQ1.out,HHQ.out,ek]) (by rw [HN1.out];omega) HX.out
   rw [hle]
   clear HX hle
   go_wp2_with fail
   refine HS.out.mono ?_
   rintro e8 w8 ⟨rfl,k8⟩
   have K8:Hid (Nw w w8):=K6.out.trans (HN.out.trans k8)
   clear k8 HS
   go_wp2
   go_ret
   exact ⟨rfl,K8.out⟩
end Go.Proofs.YtcboiapggnmpfaaGreatDoor
