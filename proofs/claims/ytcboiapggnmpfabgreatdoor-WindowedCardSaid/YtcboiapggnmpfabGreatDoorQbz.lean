import Derived.Test.YtcboiapggnmpfabGreatDoorQby
import Derived.Test.YtcboiapggnmpfabGreatDoorQaf
import Derived.Test.YtcboiapggnmpfabGreatDoorTie
import Derived.Test.YtcboiapggnmpfabGreatDoorCards
import Derived.Deep.MidRow
import Derived.ProofKit
import Derived.ChangeSlices
import Derived.SizedLaws
import Derived.Deep.Slices
import Derived.OpenShut
import Derived.LaidMore
import Derived.SevenTiedAt
namespace Go.Proofs.YtcboiapggnmpfabGreatDoor
set_option maxRecDepth 100000
set_option maxHeartbeats 16000000
set_option linter.unusedSimpArgs false
set_option linter.unusedVariables false
open Go.RowKit
open Value (int)
open IntKind (i64)
theorem evsR_get3 (l:List Evt):∀(i j:Nat) (x:Evt),l[i]? = some x→j<5→(evsR l)[i*5+j]? = (evC5 x)[j]?:=by
 induction l with
 | nil=>intro i j x h;simp at h
 | cons y r ih =>
  intro i j x h hj
  have e:evsR (y::r)=evC5 y++evsR r:=by simp [evsR]
  have hl:(evC5 y).length=5:=rfl
  rw [e]
  cases i with
  | zero=>simp at h;subst h;rw [List.getElem?_append_left (by omega)];simp
  | succ i =>
   simp at h
   rw [List.getElem?_append_right (by omega),hl]
   have:(i+1)*5+j - 5=i*5+j:=by omega
   rw [this];exact ih i j x h hj
theorem Eb.evs3 {W0 wr:World} {lp:Option Addr} {n c:Nat} {L:List Evt} (h:Eb W0 wr (.slice lp n c) L):EvsP wr lp L∧(∀g,lp=some ⟨g,0,none⟩→g<wr.heap.size):=by
 refine ⟨?_,?_⟩
 ·intro hne
  obtain ⟨g,c',e⟩:=owns_some h.own (List.length_pos_iff.2 hne)
  simp only [Value.slice.injEq] at e
  obtain ⟨rfl,rfl,rfl⟩:=e
  refine ⟨g,rfl,(h.own.lt g rfl).2,?_⟩
  intro i x hx j v hv
  have hj:j<5:=by have:=(List.getElem?_eq_some_iff.1 hv).1;simpa [evC5] using this
  exact owns_cell h.own (i*5+j) (by rw [evsR_get3 L i j x hx hj];exact hv)
 ·intro g e
  subst e
  exact (h.own.lt g rfl).2
theorem mtsC_get3 (l:List Mt):∀(i j:Nat) (x:Mt),l[i]? = some x→j<6→(mtsC l)[i*6+j]? = (mtC x)[j]?:=by
 induction l with
 | nil=>intro i j x h;simp at h
 | cons y r ih =>
  intro i j x h hj
  have e:mtsC (y::r)=mtC y++mtsC r:=by simp [mtsC]
  have hl:(mtC y).length=6:=rfl
  rw [e]
  cases i with
  | zero=>simp at h;subst h;rw [List.getElem?_append_left (by omega)];simp
  | succ i =>
   simp at h
   rw [List.getElem?_append_right (by omega),hl]
   have:(i+1)*6+j - 6=i*6+j:=by omega
   rw [this];exact ih i j x h hj
theorem mts_of3 {w:World} {base:Nat} {mp:Option Addr} {mc:Nat} {l:List Mt} (h:w.ownsRow base 34 6 (.slice mp l.length mc) l.length (mtsC l)):MtsP w mp l:=by
 intro hne
 obtain ⟨g,c',e⟩:=owns_some h (List.length_pos_iff.2 hne)
 simp only [Value.slice.injEq,true_and] at e
 obtain ⟨rfl,rfl⟩:=e
 refine ⟨g,rfl,(h.lt g rfl).2,?_⟩
 intro i x hx j v hv
 have hj:j<6:=by have:=(List.getElem?_eq_some_iff.1 hv).1;simpa [mtC] using this
 exact owns_cell h (i*6+j) (by rw [mtsC_get3 l i j x hx hj];exact hv)
theorem good_time {sc:List Int} {e:Evt} (h:goodE sc e=true):0≤e.at'∧e.at'≤1000000000000000:=by
 unfold goodE at h
 simp only [Bool.and_eq_true,decide_eq_true_eq] at h
 first|exact ⟨h.1.1.1.1.1,h.1.1.1.1.2⟩ | exact ⟨h.1.1.1.1,h.1.1.1.2⟩ | exact ⟨h.1.1.1,h.1.1.2⟩ | exact ⟨h.1.1,h.1.2⟩ | exact ⟨h.1,h.2⟩ | omega
def CutG (s t:ByteArray) (n:Nat) (P:ByteArray) (i m:Nat):Prop:=(P=s∧i≤n∧m=n+1 - i)∨(P=t∧i=n+1∧n<s.size∧m=0)
theorem CutG.end {s t:ByteArray} {n:Nat} (hC:CutK s t n) {P:ByteArray} {i m:Nat} (h:CutG s t n P i m) (hi:¬i<P.size):P=t:=by
 rcases h with ⟨rfl,h1,_⟩ | ⟨rfl,_⟩
 ·rcases hC.ct with ⟨_,e⟩ | ⟨h2,_⟩
  ·exact e.symm
  ·omega
 ·rfl
theorem CutG.in {s t:ByteArray} {n:Nat} (hC:CutK s t n) {P:ByteArray} {i m:Nat} (h:CutG s t n P i m) (hi:i<P.size):P=s∧i≤n∧m=n+1 - i:=by
 rcases h with h|⟨rfl,h1,h2,_⟩
 ·exact h
 ·rcases hC.ct with ⟨e,_⟩ | ⟨_,_,_,hz⟩
  ·omega
  ·omega
theorem windowed_any (p:Option Addr) (cap:Nat) (ns:List Int) (a dk:Int) (w:World) (hp:NumsP w p ns) (h64:∀n∈ns,In64 n) (hl:ns.length≤maxLen) (ha:In64 a) (hdk:In64 dk) :
  Calls Tryz.prog 3 #[.slice p ns.length cap,.int .i64 a,.int .i64 dk] w fun e w'=>e=.returned (.bool true)∧Nw w w':=by
 have HST:Hid (Calls Tryz.prog 4 #[.slice p ns.length cap,.int .i64 12] w fun e w'=>∃v,e=.returned v∧Eb w w' v (strTo ns (min ns.length 12)).1):=stream_any p cap 12 ns w hp h64 hl (by omega)
 have HL12:Hid ((strTo ns (min ns.length 12)).1.length≤12):=by show _≤_;rw [strTo_len ns _ (by omega)];omega
 have HLE:Hid (∀e∈(strTo ns (min ns.length 12)).1,EvOk e):=str_ok ns h64 _ (by omega)
 have HLG:Hid (GoesE (bI ⟨#[49,49,49]⟩) 0 (strTo ns (min ns.length 12)).1):=str_goes ns _ (by omega)
 generalize (strTo ns (min ns.length 12)).1=L at HST HL12 HLE HLG
 clear hp h64 hl
 obtain ⟨d,hd⟩:∃d:Nat,pickK dk 40=d:=⟨(pickK dk 40).toNat,by have:=pickK_lt (c:=dk) (n:=40) (by omega);omega⟩
 have hd40:d<40:=by have:=pickK_lt (c:=dk) (n:=40) (by omega);omega
 have HPD:Hid (∀W,Calls Tryz.prog 5 #[.int .i64 dk,.int .i64 40] W fun e w'=>e=.returned (.int .i64 (d:Int))∧w'=W):=fun W=>by
  have:=pickK_any dk 40 W hdk (by omega) (by omega)
  rw [hd] at this
  exact this
 clear hd
 have hL12:=HL12.out
 go_enter Tryz.func3,Tryz.ntmps3
 go_wp2_with fail
 refine HST.out.mono ?_
 rintro e1 w1 ⟨lv,rfl,hE⟩
 obtain ⟨lp,lc,rfl⟩:=ownsLenX hE.own
 obtain ⟨hev,hge⟩:=hE.evs3
 have HE1:Hid (∀W,Nw w1 W→EvsP W lp L):=fun W kW=>hev.kp kW (fun _ _ h=>h)
 have HGE1:Hid (∀W,Nw w1 W→∀g,lp=some ⟨g,0,none⟩→g<W.heap.size):=fun W kW g e=>Nat.lt_of_lt_of_le (hge g e) kW.size
 have K1:Hid (Nw w w1):=hE.nw
 clear hE hev hge HST
 go_wp2_with fail
 refine (HPD.out _).mono ?_
 rintro e2 w2 ⟨rfl,rfl⟩
 go_wp2_with fail
 refine (namedW_any a w2 ha).mono ?_
 rintro e3 w3 ⟨s,rfl,⟨t,n,hC,hW⟩,k3⟩
 have K3:Hid (Nw w2 w3):=k3
 have HC:Hid (CutK s t n):=hC
 have HW:Hid (WdT t d):=wnd_of hW hd40
 have hsz:s.size≤1000:=hC.z
 have HSZ:Hid (s.size≤1000):=hsz
 clear hC hW k3 HPD hsz
 go_wp2
 go_loopg [8,9] (n+1) (fun m v8 v9 wr=>∃(P:ByteArray) (i:Nat),v8=.string P∧v9=.int .i64 (i:Int)∧CutG s t n P i m∧wr=w3)
 case atStart=>exact ⟨s,0,rfl,rfl,Or.inl ⟨rfl,by omega,rfl⟩,rfl⟩
 case round =>
  obtain ⟨P,i,rfl,rfl,hG,rfl⟩:=hrel
  have HG:Hid (CutG s t n P i _):=hG
  by_cases hi:i<P.size
  ·obtain ⟨rfl,hin,hm⟩:=hG.in HC.out hi
   have HM:Hid (_=n+1 - i):=hm
   have hii:(i:Int)<(P.size:Int):=by omega
   have hi0:(0:Int)≤(i:Int):=by omega
   have hsz:=HSZ.out
   clear hm hG HG
   by_cases hn:i<n
   ·have hne:=HC.out.a i hi hn
    have hbe:(((P[i].toNat:Nat):Int) == 64)=false:=by simp only [beq_eq_false_iff_ne,ne_eq];exact hne
    go_wp2
    go_roundg (n+1 - (i+1))
    case measure=>rw [HM.out];omega
    case rel=>exact ⟨P,i+1,rfl,by simp,Or.inl ⟨rfl,by omega,rfl⟩,rfl⟩
   ·have ei:i=n:=by omega
    subst ei
    obtain ⟨hb64,hte⟩:((P[i].toNat:Nat):Int)=64∧t=P.extract 0 i:=by
     rcases HC.out.ct with ⟨e,_⟩ | ⟨h2,h3,h4,_⟩
     ·omega
     ·exact ⟨h3,h4⟩
    have hbe:(((P[i].toNat:Nat):Int) == 64)=true:=by simp only [beq_iff_eq];exact hb64
    have HTE:Hid (t=P.extract 0 i):=hte
    have hile:(i:Int)≤(P.size:Int):=by omega
    clear hte
    go_wp2
    go_roundg 0
    case measure=>rw [HM.out];omega
    case rel=>exact ⟨P.extract 0 i,i+1,rfl,by simp,Or.inr ⟨HTE.out.symm,rfl,hi,rfl⟩,rfl⟩
  ·have hPt:=hG.end HC.out hi
   have hii:¬(i:Int)<(P.size:Int):=by omega
   clear hG HG
   subst hPt
   obtain ⟨c0,c1,hR⟩:=HW.out
   have HR:Hid (WdR P d c0 c1 L):=hR L HLG.out hL12
   clear hR
   have HLn:L.length≤1000:=by omega
   have HIT:Hid (∀W,Calls Tryz.prog 8 #[.int .i64 (d:Int)] W fun e w'=>e=.returned (.string (numS d))∧w'=W):=fun W=>itoaW_any d hd40 W
   have HF1:Hid (∀W,Nw w2 W→Calls Tryz.prog 7 #[.string (P++⟨#[64]⟩++numS d),.slice lp L.length lc] W fun e w'=>∃v hs,e=.returned (.tuple #[v,.bool true])∧Mds w' W.heap.size v hs∧hs.map (·.2)=outS (bI ⟨#[49,49,49]⟩) c1 (beginsS c1) 200 200 ⟨[],0,0,false⟩ L∧Nw W w'):=fun W kW=>found_any _ _ lp lc L W HR.out.p1 (HE1.out W kW) (HGE1.out W kW) HLn HLE.out
   have HF0:Hid (∀W,Nw w2 W→Calls Tryz.prog 7 #[.string P,.slice lp L.length lc] W fun e w'=>∃v hs,e=.returned (.tuple #[v,.bool true])∧Mds w' W.heap.size v hs∧hs.map (·.2)=outS (bI ⟨#[49,49,49]⟩) c0 (beginsS c0) 200 200 ⟨[],0,0,false⟩ L∧Nw W w'):=fun W kW=>found_any _ _ lp lc L W HR.out.p0 (HE1.out W kW) (HGE1.out W kW) HLn HLE.out
   have HAW:Hid (∀W,Nw w2 W→Calls Tryz.prog 9 #[.slice lp L.length lc] W fun e w'=>e=.returned (.bool true)∧Nw W w'):=fun W kW=>awake_any lp lc L W (HE1.out W kW) (HGE1.out W kW) HLn HLE.out HLG.out
   have hzn:=numS_size d
   have hzp:=HR.out.p0.z
   have HLO0:Hid ((outS (bI ⟨#[49,49,49]⟩) c0 (beginsS c0) 200 200 ⟨[],0,0,false⟩ L).length=L.length):=outS_len _ _ _ _ _ _ _
   have HLO1:Hid ((outS (bI ⟨#[49,49,49]⟩) c1 (beginsS c1) 200 200 ⟨[],0,0,false⟩ L).length=L.length):=outS_len _ _ _ _ _ _ _
   have HWW:Hid (∀(i:Nat) (e:Evt) (A B:List Mt),L[i]? = some e→(outS (bI ⟨#[49,49,49]⟩) c1 (beginsS c1) 200 200 ⟨[],0,0,false⟩ L)[i]? = some A→(outS (bI ⟨#[49,49,49]⟩) c0 (beginsS c0) 200 200 ⟨[],0,0,false⟩ L)[i]? = some B→A=B.filter (fun m=>decide (e.at' - atL L m.first≤(d:Int)))∧∀m∈B,0≤m.first∧m.first≤(i:Int)):=HR.out.w
   have HS0:Hid (∀l∈outS (bI ⟨#[49,49,49]⟩) c0 (beginsS c0) 200 200 ⟨[],0,0,false⟩ L,l.length≤200∧∀m∈l,MtS m):=HR.out.s0
   have HS1:Hid (∀l∈outS (bI ⟨#[49,49,49]⟩) c1 (beginsS c1) 200 200 ⟨[],0,0,false⟩ L,l.length≤200∧∀m∈l,MtS m):=HR.out.s1
   clear HR HW HC
   generalize outS (bI ⟨#[49,49,49]⟩) c0 (beginsS c0) 200 200 ⟨[],0,0,false⟩ L=O0 at HF0 HWW HS0 HLO0
   generalize outS (bI ⟨#[49,49,49]⟩) c1 (beginsS c1) 200 200 ⟨[],0,0,false⟩ L=O1 at HF1 HWW HS1 HLO1
   generalize numS d=S at *
   have z1:¬9223372036854775807<P.size+1:=by omega
   have z2:¬9223372036854775807<P.size+1+S.size:=by omega
   clear hzn hzp HSZ HLn
   go_wp2_with fail
   refine (HIT.out _).mono ?_
   rintro e4 w4 ⟨rfl,rfl⟩
   clear hii hi
   go_wp2_with fail
   refine (HF1.out _ K3.out).mono ?_
   rintro e5 w5 ⟨v1,hs1,rfl,hm1,ho1,k5⟩
   have hn1:hs1.length=L.length:=by have h1:=congrArg List.length ho1;simp at h1;rw [h1,HLO1.out]
   obtain ⟨vp1,vc1,rfl⟩:=ownsLenX hm1.row
   have M1:Hid (Mds w5 w4.heap.size (.slice vp1 L.length vc1) hs1):=by rw [hn1] at hm1;exact hm1
   rw [hn1]
   have HN1:Hid (hs1.length=L.length):=hn1
   have HQ1:Hid (hs1.map (·.2)=O1):=ho1
   have K5:Hid (Nw w2 w5):=K3.out.trans k5
   clear hm1 ho1 k5 HF1 hn1
   go_wp2_with fail
   refine (HF0.out _ K5.out).mono ?_
   rintro e6 w6 ⟨v0,hs0,rfl,hm0,ho0,k6⟩
   have hn0:hs0.length=L.length:=by have h1:=congrArg List.length ho0;simp at h1;rw [h1,HLO0.out]
   obtain ⟨vp0,vc0,rfl⟩:=ownsLenX hm0.row
   have M0:Hid (Mds w6 w5.heap.size (.slice vp0 L.length vc0) hs0):=by rw [hn0] at hm0;exact hm0
   rw [hn0]
   have HN0:Hid (hs0.length=L.length):=hn0
   have HQ0:Hid (hs0.map (·.2)=O0):=ho0
   have K6:Hid (Nw w2 w6):=K5.out.trans k6
   have KK6:Hid (Nw w5 w6):=k6
   clear hm0 ho0 k6 HF0 hn0
   go_wp2_with fail
   refine (HAW.out _ K6.out).mono ?_
   rintro e7 w7 ⟨rfl,k7⟩
   have R1:Hid (Mds w7 w4.heap.size (.slice vp1 L.length vc1) hs1):=(M1.out.kp KK6.out (fun _ _ _ h=>h)).kp k7 (fun _ _ _ h=>h)
   have R0:Hid (Mds w7 w5.heap.size (.slice vp0 L.length vc0) hs0):=M0.out.kp k7 (fun _ _ _ h=>h)
   have K7:Hid (Nw w w7):=K1.out.trans (K6.out.trans k7)
   have HE7:Hid (∀W,Nw w7 W→EvsP W lp L):=fun W kW=>HE1.out W ((K6.out.trans k7).trans kW)
   clear k7 HAW M0 M1 KK6 K3 K5 K6 K1 HE1 HGE1
   obtain ⟨i1,hi1,hy0,hy1,hy2⟩:=info_parts Tryz.infoMts
   obtain ⟨dm,hmu,hmd⟩:=Option.map_eq_some_iff.1 Tryz.rowMt
   have HMU:Hid (Tryz.prog.underlying 34=some dm):=hmu
   have HMD:Hid (dm.isRow=true):=hmd
   clear hmu hmd
   go_wp2
   go_loopg [15] L.length (fun m v15 wr=>∃i:Nat,v15=.int .i64 (i:Int)∧m=L.length - i∧i≤L.length∧Nw w7 wr)
   case atStart=>exact ⟨0,rfl,rfl,by omega,Kp.refl _ _⟩
   case round =>
    obtain ⟨i,rfl,hmm,hil,hN⟩:=hrel
    have HMM:Hid (_=L.length - i):=hmm
    have HN:Hid (Nw w7 wr):=hN
    clear hmm hN
    by_cases hi:i<L.length
    ·have hii:(i:Int)<L.length:=by omega
     obtain ⟨e,he⟩:∃e,L[i]? = some e:=⟨L[i],by simp [hi]⟩
     obtain ⟨x1,hx1⟩:∃x,hs1[i]? = some x:=⟨hs1[i]'(by rw [HN1.out];exact hi),by simp [HN1.out,hi]⟩
     obtain ⟨x0,hx0⟩:∃x,hs0[i]? = some x:=⟨hs0[i]'(by rw [HN0.out];exact hi),by simp [HN0.out,hi]⟩
     obtain ⟨mv1,ml1⟩:=x1
     obtain ⟨mv0,ml0⟩:=x0
     have hml1:O1[i]? = some ml1:=by rw [←HQ1.out];simp [hx1]
     have hml0:O0[i]? = some ml0:=by rw [←HQ0.out];simp [hx0]
     obtain ⟨hfil,hfst⟩:=HWW.out i e ml1 ml0 he hml1 hml0
     have HFL:Hid (ml1=ml0.filter (fun m=>decide (e.at' - atL L m.first≤(d:Int)))):=hfil
     have HFS:Hid (∀m∈ml0,0≤m.first∧m.first≤(i:Int)):=hfst
     obtain ⟨hol0,hom0⟩:=HS0.out _ (List.mem_of_getElem? hml0)
     obtain ⟨hol1,hom1⟩:=HS1.out _ (List.mem_of_getElem? hml1)
     have HOM1:Hid (∀m∈ml1,MtS m):=hom1
     have hme0:=R0.out.each _ (List.mem_of_getElem? hx0)
     have hme1:=R1.out.each _ (List.mem_of_getElem? hx1)
     simp only at hme0 hme1
     obtain ⟨mp0,mc0,e20⟩:=ownsLenX hme0
     obtain ⟨mp1,mc1,e21⟩:=ownsLenX hme1
     subst e20
     subst e21
     have hrow0:=R0.out.row
     have hrow1:=R1.out.row
     rw [HN0.out] at hrow0
     rw [HN1.out] at hrow1
     obtain ⟨ga0,ca0,e30⟩:=owns_some hrow0 (by omega)
     obtain ⟨ga1,ca1,e31⟩:=owns_some hrow1 (by omega)
     simp only [Value.slice.injEq,true_and] at e30 e31
     obtain ⟨rfl,rfl⟩:=e30
     obtain ⟨rfl,rfl⟩:=e31
     have HC0:Hid (∀W,Nw wr W→W.cell? ⟨ga0,i,none⟩=some (.slice mp0 ml0.length mc0)):=by
      intro W kW
      exact owns_cell (owns_kp hrow0 (HN.out.trans kW) (fun _ _ h=>h)) i (by simp [hx0])
     have HC1:Hid (∀W,Nw wr W→W.cell? ⟨ga1,i,none⟩=some (.slice mp1 ml1.length mc1)):=by
      intro W kW
      exact owns_cell (owns_kp hrow1 (HN.out.trans kW) (fun _ _ h=>h)) i (by simp [hx1])
     have HM0:Hid (∀W,Nw wr W→MtsP W mp0 ml0):=fun W kW=>mts_of3 (owns_kp hme0 (HN.out.trans kW) (fun _ _ h=>h))
     have HM1:Hid (∀W,Nw wr W→MtsP W mp1 ml1):=fun W kW=>mts_of3 (owns_kp hme1 (HN.out.trans kW) (fun _ _ h=>h))
     have hLne:¬L=[]:=by intro e0;rw [e0] at he;simp at he
     obtain ⟨ge,rfl,hgl,_⟩:=HE7.out wr HN.out hLne
     have HEC:Hid (∀(j:Nat) (x:Evt) W,L[j]? = some x→Nw wr W→W.cell? ⟨ge,j*5,none⟩=some (.int .i64 x.at')):=by
      intro j x W hx kW
      obtain ⟨g',e',_,hc'⟩:=HE7.out W (HN.out.trans kW) hLne
      cases e'
      have:=hc' j x hx 0 _ rfl
      simpa using this
     have HEI:Hid (L[i]? = some e):=he
     have HET:Hid (∀(j:Nat) (x:Evt),L[j]? = some x→0≤x.at'∧x.at'≤1000000000000000):=fun j x hx=>good_time (GoesE.last j x HLG.out hx).1
     clear hme0 hme1 hrow0 hrow1 hx0 hx1 hml0 hml1 hom0 hom1 hfil hfst he hLne hgl
     generalize wr=wo at *
     have q0:=HC0.out wo (Kp.refl _ _)
     go_wp2
     go_loopg [16,17] ml0.length (fun m v16 v17 wk=>∃n:Nat,v17=.int .i64 (n:Int)∧m=ml0.length - n∧n≤ml0.length∧wk.ownsRow wo.heap.size 34 6 v16 ((ml0.take n).filter (fun m=>decide (e.at' - atL L m.first≤(d:Int)))).length (mtsC ((ml0.take n).filter (fun m=>decide (e.at' - atL L m.first≤(d:Int)))))∧Nw wo wk)
     case atStart=>exact ⟨0,rfl,rfl,by omega,by simpa [mtsC] using World.ownsRow_nil wo wo.heap.size 34 6,Kp.refl _ _⟩
     case round =>
      obtain ⟨n,rfl,hnm,hnl,hv,hk2⟩:=hrel
      have HNM:Hid (_=ml0.length - n):=hnm
      have HV:Hid (wr.ownsRow wo.heap.size 34 6 u16 ((ml0.take n).filter (fun m=>decide (e.at' - atL L m.first≤(d:Int)))).length (mtsC ((ml0.take n).filter (fun m=>decide (e.at' - atL L m.first≤(d:Int)))))):=hv
      have HK2:Hid (Nw wo wr):=hk2
      have hfl:((ml0.take n).filter (fun m=>decide (e.at' - atL L m.first≤(d:Int)))).length≤200:=Nat.le_trans (List.length_filter_le _ _) (by rw [List.length_take];omega)
      have hwo:wo.heap.size≤wr.heap.size:=hk2.size
      have q1:=HC0.out wr hk2
      clear hnm hv q0
      by_cases hn:n<ml0.length
      ·obtain ⟨x,hx⟩:∃x,ml0[n]? = some x:=⟨ml0[n],by simp [hn]⟩
       have hne:¬ml0=[]:=by intro e0;rw [e0] at hx;simp at hx
       obtain ⟨gm,rfl,hgm,hcr⟩:=HM0.out wr hk2 hne
       obtain ⟨hf0,hfi⟩:=HFS.out x (List.mem_of_getElem? hx)
       have HRX:Hid (wr.rangeAt gm (n*6) (mtC x)):=hcr n x hx
       have HRW:Hid (∀W,Nw wr W→W.rangeAt gm (n*6) (mtC x)):=fun W kW j v hv=>(kW.cell (p:=⟨gm,n*6+j,none⟩) hgm (fun h=>h)).trans (hcr n x hx j v hv)
       have HX:Hid (ml0[n]? = some x):=hx
       obtain ⟨xf,xl,x0,x1,x2,x3⟩:=x
       simp only at hf0 hfi
       obtain ⟨f,rfl⟩:∃f:Nat,xf=(f:Int):=⟨xf.toNat,by omega⟩
       have hfL:f<L.length:=by omega
       obtain ⟨ef,hef⟩:∃ef,L[f]? = some ef:=⟨L[f],by simp [hfL]⟩
       have HAT:Hid (atL L (f:Int)=ef.at'):=by show _=_;unfold atL;rw [show ((f:Int)).toNat=f by omega,hef]
       have d0:wr.cell? ⟨gm,n*6,none⟩=some (.int .i64 (f:Int)):=by have:=hcr n _ hx 0 _ rfl;simpa using this
       have HSML:Hid ((Tryz.prog.info? 34).map (·.size)=some ([.int .i64 (f:Int),.int .i64 xl,.int .i64 x0,.int .i64 x1,.int .i64 x2,.int .i64 x3]:List Value).length):=Tryz.sizeMt
       have hnn:(n:Int)<ml0.length:=by omega
       have hfn:¬(f:Int)<0:=by omega
       have hfg:¬(i:Int)<(f:Int):=by omega
       have hfl2:(f:Int)<L.length:=by omega
       have HEA:Hid (∀W,Nw wr W→W.cell? ⟨ge,i*5,none⟩=some (.int .i64 e.at')):=fun W kW=>HEC.out i e W HEI.out (hk2.trans kW)
       have HEF:Hid (∀W,Nw wr W→W.cell? ⟨ge,f*5,none⟩=some (.int .i64 ef.at')):=fun W kW=>HEC.out f ef W hef (hk2.trans kW)
       have hte:=HET.out i e HEI.out
       have htf:=HET.out f ef hef
       have hwt:IntKind.i64.wrap (e.at' - ef.at')=e.at' - ef.at':=IntWalk.i64_in _ (by omega)
       clear hcr hx hne hgm hk2 hte htf hef hf0 hfi
       have HRX2:Hid (∀W,Nw wr W→W.rangeAt gm (n*6) [.int .i64 (f:Int),.int .i64 xl,.int .i64 x0,.int .i64 x1,.int .i64 x2,.int .i64 x3]):=HRW.out
       by_cases hf:e.at' - ef.at'≤(d:Int)
       ·obtain ⟨vp,vc,hve⟩:=ownsLenX HV.out
        have hvv:=HV.out
        subst hve
        generalize hlen:((ml0.take n).filter (fun m=>decide (e.at' - atL L m.first≤(d:Int)))).length=fl at *
        have HFN:Hid (((ml0.take n).filter (fun m=>decide (e.at' - atL L m.first≤(d:Int)))).length=fl):=hlen
        have HVV:Hid (wr.ownsRow wo.heap.size 34 6 (.slice vp fl vc) fl (mtsC ((ml0.take n).filter (fun m=>decide (e.at' - atL L m.first≤(d:Int)))))):=hvv
        clear hvv hlen HV
        have hdd:decide (e.at' - ef.at'≤(d:Int))=true:=by simpa using hf
        go_wp2
        refine wp_region_held_drew (S:=fun W=>Nw wr W) (by kernel_rfl) ((Kp.refl _ _).drew) (fun hHeld => ?_)
        refine tM 0 rfl (fun W hSW=>by (try dsimp only at hSW);go_simp;rw []) hHeld ?_
        refine tM 1 rfl (fun W hSW=>by (try dsimp only at hSW);go_simp;rw []) hHeld ?_
        refine tM 2 rfl (fun W hSW=>by (try dsimp only at hSW);go_simp;rw []) hHeld ?_
        refine tM 3 rfl (fun W hSW=>by (try dsimp only at hSW);go_simp;rw []) hHeld ?_
        refine tM 4 rfl (fun W hSW=>by (try dsimp only at hSW);have hq:=HEA.out W hSW;go_simp;rw []) hHeld ?_
        refine tM 5 rfl (fun W hSW=>by (try dsimp only at hSW);go_simp;rw []) hHeld ?_
        refine tM 6 rfl (fun W hSW=>by (try dsimp only at hSW);go_simp;rw []) hHeld ?_
        refine tM 7 rfl (fun W hSW=>by (try dsimp only at hSW);go_simp;rw []) hHeld ?_
        refine tM 8 rfl (fun W hSW=>by (try dsimp only at hSW);go_simp;rw []) hHeld ?_
        refine tM 9 rfl (fun W hSW=>by (try dsimp only at hSW);have hq:=HEF.out W hSW;go_simp;rw []) hHeld ?_
        refine tM 10 rfl (fun W hSW=>by (try dsimp only at hSW);go_simp;rw []) hHeld ?_
        refine tM 11 rfl (fun W hSW=>by (try dsimp only at hSW);go_simp;rw []) hHeld ?_
        refine tL (i:=12) (v:=.bool true) rfl (Or.inl ⟨by rfl,fun W hSW => ?y12⟩) hHeld ?_
        case y12=>(try dsimp only at hSW);go_simp;rw []
        simp only [Act.put,sA,sZ,sS]
        refine wpAnyH_done (by kernel_rfl) ?_ _
        have KD:Hid (Nw wr wr.drew):=(Kp.refl _ _).drew
        have q2:=HC0.out wr.drew (HK2.out.trans KD.out)
        have HVD:Hid (wr.drew.ownsRow wo.heap.size 34 6 (.slice vp fl vc) fl (mtsC ((ml0.take n).filter (fun m=>decide (e.at' - atL L m.first≤(d:Int)))))):=owns_kp HVV.out KD.out (fun _ _ h=>h)
        have HRD:Hid (wr.drew.rangeAt gm (n*6) [.int .i64 (f:Int),.int .i64 xl,.int .i64 x0,.int .i64 x1,.int .i64 x2,.int .i64 x3]):=HRX2.out _ KD.out
        have hwd:wo.heap.size≤wr.drew.heap.size:=Nat.le_trans hwo KD.out.size
        have HKD:Hid (Nw wo wr.drew):=HK2.out.trans KD.out
        clear HEA HEF q1 d0
        generalize wr.drew=wd at *
        go_wp2_with (first|(with_reducible (show Go.wpList _ _ _ ({ dst:=_,op:=Op.load 34 _,type:=_,pos:=_,after:=_,guard:=_ }::_) _ _);refine wpList_load_mid rfl 34 _ rfl gm (n*6) rfl [.int .i64 (f:Int),.int .i64 xl,.int .i64 x0,.int .i64 x1,.int .i64 x2,.int .i64 x3] dm HRD.out HMU.out HMD.out HSML.out ?_)|(at_builtin;refine wpList_append_lies _ rfl _ _ 31 rfl wo.heap.size 34 i1 (.agg #[int i64 0,int i64 0,int i64 0,int i64 0,int i64 0,int i64 0]) 6 48 Tryz.unMts hi1 hy0 hy1 hy2 rfl (by decide) _ _ _ rfl (HVD.out.alloc _) ⟨wd.heap.size,0,none⟩ 1 1 [.int .i64 (f:Int),.int .i64 xl,.int .i64 x0,.int .i64 x1,.int .i64 x2,.int .i64 x3] rfl rfl ?b1 ?b2 (by decide) ?b3 ?b4 ?b5 _ rfl ?_)|fail)
        try (case b1=>intro j' u hu;rw [Addr.add_mid];exact (Bx.new wd [.int .i64 (f:Int),.int .i64 xl,.int .i64 x0,.int .i64 x1,.int .i64 x2,.int .i64 x3] 34).r j' u hu)
        case b2=>first|exact ⟨rfl,rfl,rfl,rfl,rfl,rfl⟩ | (intro u hu;simp only [List.mem_cons,List.not_mem_nil,or_false] at hu;rcases hu with e|e|e|e|e|e <;> rw [e] <;> rfl)
        case b3=>unfold maxLen;omega
        case b4=>omega
        case b5=>first|omega|(simp;done)|(simp;omega)
        intro g3 cap3 w3' hown3 hgrow hat hlt
        have e2:(ml0.take (n+1)).filter (fun m=>decide (e.at' - atL L m.first≤(d:Int)))=(ml0.take n).filter (fun m=>decide (e.at' - atL L m.first≤(d:Int)))++[⟨(f:Int),xl,x0,x1,x2,x3⟩]:=by
         rw [List.take_add_one,HX.out,Option.toList_some,List.filter_append]
         congr 1
         simp only [List.filter_cons,List.filter_nil,HAT.out,hdd,if_true]
        have HV3:Hid (w3'.ownsRow wo.heap.size 34 6 (.slice (some ⟨g3,0,none⟩) (fl+1) cap3) ((ml0.take (n+1)).filter (fun m=>decide (e.at' - atL L m.first≤(d:Int)))).length (mtsC ((ml0.take (n+1)).filter (fun m=>decide (e.at' - atL L m.first≤(d:Int)))))):=by
         show World.ownsRow _ _ _ _ _ _ _
         rw [e2,List.length_append,HFN.out,mtsC_app]
         simpa [mtsC,mtC] using hown3
        have HK3:Hid (Nw wo w3'):=(HKD.out.alloc _).grown hgrow (fun b hb=>Or.inl (HVD.out.lt b hb).1)
        clear hown3 hgrow hat e2
        go_wp2
        go_roundg (ml0.length - (n+1))
        case measure=>rw [HNM.out];omega
        case rel=>exact ⟨n+1,by simp,rfl,by omega,HV3.out,HK3.out⟩
       ·have hdd:decide (e.at' - ef.at'≤(d:Int))=false:=by simpa using hf
        have HV3:Hid (wr.drew.ownsRow wo.heap.size 34 6 u16 ((ml0.take (n+1)).filter (fun m=>decide (e.at' - atL L m.first≤(d:Int)))).length (mtsC ((ml0.take (n+1)).filter (fun m=>decide (e.at' - atL L m.first≤(d:Int)))))):=by
         have e2:(ml0.take (n+1)).filter (fun m=>decide (e.at' - atL L m.first≤(d:Int)))=(ml0.take n).filter (fun m=>decide (e.at' - atL L m.first≤(d:Int))):=by
          rw [List.take_add_one,HX.out,Option.toList_some,List.filter_append]
          simp only [List.filter_cons,List.filter_nil,HAT.out,hdd]
          simp
         show World.ownsRow _ _ _ _ _ _ _
         rw [e2];exact owns_kp HV.out ((Kp.refl (fun _=>False) _).drew) (fun _ _ h=>h)
        clear HV
        go_wp2
        refine wp_region_held_drew (S:=fun W=>Nw wr W) (by kernel_rfl) ((Kp.refl _ _).drew) (fun hHeld => ?_)
        refine tM 0 rfl (fun W hSW=>by (try dsimp only at hSW);go_simp;rw []) hHeld ?_
        refine tM 1 rfl (fun W hSW=>by (try dsimp only at hSW);go_simp;rw []) hHeld ?_
        refine tM 2 rfl (fun W hSW=>by (try dsimp only at hSW);go_simp;rw []) hHeld ?_
        refine tM 3 rfl (fun W hSW=>by (try dsimp only at hSW);go_simp;rw []) hHeld ?_
        refine tM 4 rfl (fun W hSW=>by (try dsimp only at hSW);have hq:=HEA.out W hSW;go_simp;rw []) hHeld ?_
        refine tM 5 rfl (fun W hSW=>by (try dsimp only at hSW);go_simp;rw []) hHeld ?_
        refine tM 6 rfl (fun W hSW=>by (try dsimp only at hSW);go_simp;rw []) hHeld ?_
        refine tM 7 rfl (fun W hSW=>by (try dsimp only at hSW);go_simp;rw []) hHeld ?_
        refine tM 8 rfl (fun W hSW=>by (try dsimp only at hSW);go_simp;rw []) hHeld ?_
        refine tM 9 rfl (fun W hSW=>by (try dsimp only at hSW);have hq:=HEF.out W hSW;go_simp;rw []) hHeld ?_
        refine tM 10 rfl (fun W hSW=>by (try dsimp only at hSW);go_simp;rw []) hHeld ?_
        refine tM 11 rfl (fun W hSW=>by (try dsimp only at hSW);go_simp;rw []) hHeld ?_
        refine tL (i:=12) (v:=.bool false) rfl (Or.inl ⟨by rfl,fun W hSW => ?y12⟩) hHeld ?_
        case y12=>(try dsimp only at hSW);go_simp;rw []
        simp only [Act.put,sA,sZ,sS]
        refine wpAnyH_done (by kernel_rfl) ?_ _
        have HKD:Hid (Nw wo wr.drew):=HK2.out.drew
        go_wp2
        go_roundg (ml0.length - (n+1))
        case measure=>rw [HNM.out];omega
        case rel=>exact ⟨n+1,by simp,rfl,by omega,HV3.out,HKD.out⟩
      ·have hnn:¬(n:Int)<ml0.length:=by omega
       have hne2:ml0.take n=ml0:=List.take_of_length_le (by omega)
       have HV2:Hid (wr.ownsRow wo.heap.size 34 6 u16 ml1.length (mtsC ml1)):=by
        have:=HV.out
        rw [hne2,←HFL.out] at this
        exact this
       obtain ⟨vp,vc,hve⟩:=ownsLenX HV2.out
       subst hve
       have q2:=HC1.out wr hk2
       have HSM:Hid (Calls Tryz.prog 10 #[.slice mp1 ml1.length mc1,.slice vp ml1.length vc] wr fun e w'=>e=.returned (.bool true)∧Nw wr w'):=sameM_same mp1 vp mc1 vc ml1 wr (HM1.out wr hk2) (mts_of3 HV2.out) (by omega) (fun m hm=>(HOM1.out m hm).ok)
       clear hne2 HV hfl hk2
       go_wp2_with fail
       refine HSM.out.mono ?_
       rintro e8 w8 ⟨rfl,k8⟩
       have K8:Hid (Nw w7 w8):=(HN.out.trans HK2.out).trans k8
       clear k8 HSM
       go_wp2
       go_roundg (L.length - (i+1))
       case measure=>rw [HMM.out];omega
       case rel=>exact ⟨i+1,by simp,rfl,by omega,K8.out⟩
    ·have hii:¬(i:Int)<L.length:=by omega
     go_wp2
     go_ret
     exact ⟨rfl,K7.out.trans HN.out⟩
section
open Go.ChangeShapes Go.WideShapes Go.ChangeAt Go.RowKit Go.Deep
theorem Tryz.tlaid:laidOutB Tryz.prog=true:=by kernel_rfl
theorem Tryz.town:ownKnob Tryz.prog.godebug=none:=by kernel_rfl
theorem Tryz.tb4:Tryz.prog.underlying 4=some .bool:=by kernel_rfl
theorem Tryz.ti3:Tryz.prog.underlying 3=some (.int .i64):=by kernel_rfl
theorem Tryz.ts22:Tryz.prog.underlying 22=some (.slice 3):=by kernel_rfl
theorem Tryz.tc3:Tryz.prog.cellsOf 3=1:=by kernel_rfl
theorem in64_wf {n:Int} (h:(Lit.int .i64 n).wf=true):In64 n:=by
 simp [Lit.wf,IntKind.min,IntKind.max,IntKind.signed,IntKind.bits] at h
 unfold In64
 omega
theorem nums_open {H:Type} {enc:TypeId×Value→H} {W:World} {held:Bool} {a0:Option Addr} {len cap:Nat} {d:DataW H} {ps:List MemPlace} (h:DataW.Trod enc Tryz.prog W 0 (fun _=>true) held 22 (.slice a0 len cap) d ps) :
  ∃ns:List Int,ns.length=len∧NumsP W a0 ns∧(∀n∈ns,In64 n)∧ns.length≤maxLen:=by
 obtain ⟨fuel,hf⟩:=h
 rcases open_ints Tryz.ts22 Tryz.ti3 Tryz.tc3 hf with ⟨hcs,_⟩ | ⟨a,len',cap',zs,hcs,_,hl,hm,hz,_,hcell,hwf⟩
 ·simp [Value.cells] at hcs
  obtain ⟨rfl,rfl,rfl⟩:=hcs
  exact ⟨[],rfl,fun h=>absurd rfl h,fun n hn=>by simp at hn,by simp⟩
 ·simp [Value.cells] at hcs
  obtain ⟨rfl,rfl,rfl⟩:=hcs
  simp only [if_true] at hz
  have hlen:(zs.take len).length=len:=by rw [List.length_take];omega
  refine ⟨zs.take len,hlen,?_,fun n hn=>in64_wf (hwf n (List.mem_of_mem_take hn)),by rw [hlen];omega⟩
  intro hne
  have h0:0<len:=by
   rcases Nat.eq_zero_or_pos len with e|e
   ·exact absurd (List.eq_nil_of_length_eq_zero (by rw [hlen];exact e)) hne
   ·exact e
  obtain ⟨b,off,spot⟩:=a
  have h00:=hcell 0 (by omega)
  have hspot:spot=none:=by simpa [Addr.add] using World.cell?_spot h00
  subst hspot
  have hadd:∀i:Nat,((⟨b,off,none⟩:Addr).add i)=⟨b,off+i,none⟩:=fun i=>by rw [Addr.add_mid]
  refine ⟨b,off,rfl,?_,?_⟩
  ·rw [hadd] at h00
   exact World.block_lt_of_cell? W ⟨b,off+0,none⟩ h00
  ·intro i n hi
   have hil:i<len:=by have:=(List.getElem?_eq_some_iff.1 hi).1;rwa [hlen] at this
   rw [List.getElem?_take_of_lt hil] at hi
   have:=hcell i (by omega)
   rw [hadd] at this
   rw [this]
   simp [List.getD,hi]
theorem door_met (os:Os) (args:Array Value):laidMetH Tryz.prog Rows.windowedRow.laid ((World.doorLaid Tryz.prog 400 os).forCall (fun _ _=>0) ⟨#[],args,[]⟩).memory :=
 laidMetH_of_parts3 (fuel:=8) (laidMet_of_run' 8 (by kernel_rfl) (by kernel_rfl)) (by kernel_rfl) (by kernel_rfl)
theorem windowed_lifted (os:Os) (started:os.Started) (H:Type) (enc:TypeId×Value→H) :
  ReturnsInHanded {} Tryz.checked os 3 .any (fun w args=>(Rows.windowedSpec.pre enc Tryz.prog Tryz.f3 [] false w args∧laidMetH Tryz.prog Rows.windowedRow.laid w)∧sizedMet enc Tryz.prog Tryz.f3 (OpenSpec.ofChange Rows.windowedSpec) false w args) (Rows.windowedSpec.post enc Tryz.prog Tryz.f3 false true false false):=by
 refine returnsInHanded_of_change_and (C:=Tryz.checked) (X:=fun w _=>laidMetH Tryz.prog Rows.windowedRow.laid w) (fun _ _ _ hh h=>h.of_heap hh) Tryz.town started (by kernel_rfl) Tryz.func3
  (ChangeSpec.witness_shaped (enc:=enc) (C:=Tryz.checked) (os:=os) (X:=fun w _=>laidMetH Tryz.prog Rows.windowedRow.laid w) false (World.doorLaid Tryz.prog 400 os) #[.slice none 0 0,.int .i64 0,.int .i64 0] 8 rfl (World.shaped_of_RefB (by kernel_rfl) (by kernel_rfl)) (by kernel_rfl) (by kernel_rfl) (by kernel_rfl) (door_met os _)) ?_
 intro W base args ds gs before hval0 hW _ _ hL _
 have hval:∀(j:Nat) t v,Tryz.f3.params[j]? = some t→args[j]? = some v→Value.okWide Tryz.prog W .any base t v:=hval0
 have hW':=hW
 obtain ⟨p,q,hA0,hV,rfl,hfz,_⟩:=hW
 have hA:DataW.TrodAll enc Tryz.prog W 0 (fun _=>true) true Tryz.f3.params.toList args.toList ds p:=hA0
 rw [Tryz.params3] at hA hval
 obtain ⟨v1,vs1,d1,ds1,p1,q1,hargs,rfl,rfl,h1,k1⟩:=trodAll_cons hA
 obtain ⟨v2,vs2,d2,ds2,p2,q2,rfl,rfl,rfl,h2,k2⟩:=trodAll_cons k1
 obtain ⟨v3,vs3,d3,ds3,p3,q3,rfl,rfl,rfl,h3,k3⟩:=trodAll_cons k2
 obtain ⟨rfl,rfl,rfl⟩:=trodAll_nil k3
 have hargs2:args=#[v1,v2,v3]:=by cases args;simp_all
 subst hargs2
 obtain ⟨rfl,rfl⟩:=trodVars_none hV
 obtain ⟨a1,len1,cap1,rfl⟩:=okWide_slice Tryz.ts22 (hval 0 22 v1 rfl rfl)
 obtain ⟨n2,rfl,rfl,rfl,w2⟩:=open_int Tryz.ti3 (hval 1 3 v2 rfl rfl) h2
 obtain ⟨n3,rfl,rfl,rfl,w3⟩:=open_int Tryz.ti3 (hval 2 3 v3 rfl rfl) h3
 clear hA0 hval0 hA hval
 obtain ⟨ns,e1,hp1,hn1,hm1⟩:=nums_open h1
 subst e1
 simp only [List.append_nil,List.nil_append] at hW' hfz
 have hlt:∀x∈p1,x.block<W.heap.size:=fun x hx=>hW'.lt x (by simpa using hx)
 refine (windowed_any a1 cap1 ns n2 n3 W hp1 hn1 hm1 (in64_wf w2) (in64_wf w3)).mono fun e W' ⟨he,hk⟩ => ?_
 subst he
 have hb:Below W.heap.size W W':=hk.toBelow (Nat.le_refl _) (fun _ h=>False.elim h)
 exact ⟨_,rfl,⟨_,_,_,[],_,[],hW',trodAll_mk1 (shut_bool Tryz.tb4 true),
  trodAll_cons_mk (Below.trod Tryz.tlaid (by kernel_rfl) (of_decide_eq_true (by kernel_rfl)) h1 hb hlt) (trodAll_cons_mk (shut_int Tryz.ti3 w2) (trodAll_mk1 (shut_int Tryz.ti3 w3))),rfl,hb.frame _,fun h=>by cases h⟩⟩
theorem windowed_row:Rows.WindowedSaid :=
 OpenClaim.holds_of_wide 3 Tryz.f3 rfl rfl rfl rfl rfl rfl rfl ⟨rfl,rfl,rfl,rfl,rfl⟩ rfl rfl rfl rfl rfl (by kernel_rfl) Tryz.func3 wnf_closed
  (of_decide_eq_true (by kernel_rfl)) (by unfold Func.isWrapper;first|(rw [if_pos (by decide +kernel)];kernel_rfl)|(rw [if_neg (by decide +kernel)];exact ⟨rfl,rfl⟩))
  (fun os started H enc _=>windowed_lifted os started H enc)
theorem windowed_holds:Rows.WindowedCardSaid :=
 Claim7.holds_tied_plain_at .later [] [.data,.data,.data] true (true,"bfc52cfd3e6b947d4d0fbdb68280615d9ca79aec017d5601de4ba977ecba6e4a") false
  windowed_row (fun _ h=>by cases h) (by kernel_rfl) (fun _ h=>by cases h) windowed_row_tie rfl ⟨rfl,rfl⟩ (by kernel_rfl) rfl
  (fun f fn hf hfn=>by
   obtain rfl:f=3:=Option.some.inj ((show Tryz.prog.funcNamed "spotter/spotterkeep.Windowed" = some 3 by kernel_rfl).symm.trans hf) |>.symm
   obtain rfl:fn=Tryz.f3:=(Option.some.inj (Tryz.func3.symm.trans hfn)).symm
   exact ⟨by kernel_rfl,fun j t ht=>by
    rw [Tryz.params3] at ht
    have hm:t∈[22,3,3]:=by simpa using Array.mem_of_getElem? ht
    have hall:([22,3,3].all fun u => !Tryz.prog.wantsStandIn u)=true:=by kernel_rfl
    exact (show Tryz.prog.wantsStandIn t=false by simpa using List.all_eq_true.1 hall t hm)⟩)
  (by kernel_rfl)
#print axioms windowed_holds
end
end Go.Proofs.YtcboiapggnmpfabGreatDoor
