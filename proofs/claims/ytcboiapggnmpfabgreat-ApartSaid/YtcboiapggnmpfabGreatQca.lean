import Derived.Test.YtcboiapggnmpfabGreatQbw
import Derived.Test.YtcboiapggnmpfabGreatQbz
import Derived.Test.YtcboiapggnmpfabGreatRows
import Derived.JoinedOf
import Derived.KernelRfl
import Derived.Deep.MidRow
import Derived.ProofKit
import Derived.ChangeSlices
import Derived.SizedLaws
import Derived.Deep.Slices
import Derived.OpenShut
namespace Go.Proofs.YtcboiapggnmpfabGreat
set_option maxRecDepth 100000
set_option maxHeartbeats 16000000
set_option linter.unusedSimpArgs false
set_option linter.unusedVariables false
open Go.RowKit
open Value (int)
open IntKind (i64)
theorem movedK_any (n:Int) (k:Nat) (w:World) (hn : -1≤n∧n≤100) (hk:k≤100):Calls Tryz.prog 16 #[.int .i64 n,.int .i64 (k:Int)] w fun e w'=>e=.returned (.int .i64 (mvI n k))∧w'=w:=by
 by_cases h:n<0
 ·have e:mvI n k=n:=by unfold mvI;rw [if_pos h]
  rw [e]
  go_enter Tryz.func16,Tryz.ntmps16
  go_wp2
  go_ret
  exact ⟨rfl,rfl⟩
 ·have e:mvI n k=n+k:=by unfold mvI;rw [if_neg h]
  rw [e]
  have hw:IntKind.i64.wrap (n+(k:Int))=n+(k:Int):=IntWalk.i64_in _ (by omega)
  go_enter Tryz.func16,Tryz.ntmps16
  go_wp2
  go_ret
  exact ⟨rfl,rfl⟩
theorem box_mt2 (W:World) (m:Mt):Bx ((W.alloc (.cells #[int i64 0,int i64 0,int i64 0,int i64 0,int i64 0,int i64 0] 36)).setCells W.heap.size 0 (mtC m)) W.heap.size (mtC m)∧Nw W ((W.alloc (.cells #[int i64 0,int i64 0,int i64 0,int i64 0,int i64 0,int i64 0] 36)).setCells W.heap.size 0 (mtC m)):=by
 refine ⟨(Bx.new W (mtC ⟨0,0,0,0,0,0⟩) 36).put (by simp [mtC]),((Kp.refl _ _).alloc _).trans' (kp_setCells _ 0 _) (by intro b hb e;omega)⟩
theorem box_there2 (W:World) (m:Mt):(W.alloc (.cells #[int i64 0,int i64 0,int i64 0,int i64 0,int i64 0,int i64 0] 36)).there W.heap.size 0 (mtC m).toArray.size:=by
 have:=(Bx.new W (mtC ⟨0,0,0,0,0,0⟩) 36).there (n:=6) (by simp [mtC])
 simpa [mtC] using this
def pmC (m:Mt) (k:Nat):Nat→List Value
 | 0=>[.int .i64 (m.first+k),.int .i64 (m.last+k),.int .i64 m.h0,.int .i64 m.h1,.int .i64 m.h2,.int .i64 m.h3]
 | h+1=>(pmC m k h).set (2+h) (.int .i64 (mvI (match h with|0=>m.h0|1=>m.h1|2=>m.h2|_=>m.h3) k))
def hdM (m:Mt):Nat→Int
 | 0=>m.h0
 | 1=>m.h1
 | 2=>m.h2
 | _=>m.h3
theorem pmC_get (m:Mt) (k:Nat):∀h,h<4→(pmC m k h)[2+h]? = some (.int .i64 (hdM m h)):=by
 intro h hh
 rcases (show h=0∨h=1∨h=2∨h=3 by omega) with rfl|rfl|rfl|rfl <;> rfl
theorem pmC_next (m:Mt) (k:Nat) (h:Nat) (hh:h<4):(pmC m k h).set (2+h) (.int .i64 (mvI (hdM m h) k))=pmC m k (h+1):=by
 rcases (show h=0∨h=1∨h=2∨h=3 by omega) with rfl|rfl|rfl|rfl <;> rfl
theorem MtS.hd {m:Mt} (hm:MtS m) (h:Nat) : -1≤hdM m h∧hdM m h≤100:=by
 match h with
 | 0=>exact hm.h0
 | 1=>exact hm.h1
 | 2=>exact hm.h2
 | (h+3)=>exact hm.h3
theorem owns_form {w:World} {base n size:Nat} {e:TypeId} {v:Value} {xs:List Value} (h:w.ownsRow base e size v n xs):∃p c,v=.slice p n c∧n≤c∧∀q,p=some q→∃g,q=⟨g,0,none⟩∧g<w.heap.size:=by
 have hlt:=h.lt
 rcases h.2 with ⟨h2,h3⟩ | ⟨g',cap',cur,h2,_,h3,h4,h5,_⟩
 ·exact ⟨none,0,by rw [h2,h3],by omega,fun q e=>by cases e⟩
 ·subst h2
  refine ⟨_,_,rfl,h4,?_⟩
  intro q e
  cases e
  exact ⟨g',rfl,(hlt g' rfl).2⟩
theorem evs_drop {w:World} {lp:Option Addr} {L:List Evt} (h:EvsP w lp L) (k lc:Nat) (hk:k≤L.length) (hc:L.length≤lc):EvsO w (if lc=k then lp else lp.map (fun x=>x.add (k*5))) (L.drop k):=by
 intro hne
 have hkl:k<L.length:=by
  rcases Nat.lt_or_ge k L.length with h|h
  ·exact h
  ·exact absurd (List.drop_eq_nil_of_le h) hne
 obtain ⟨g,e,hl,hc2⟩:=h (by intro e;rw [e] at hkl;simp at hkl)
 rw [if_neg (by omega),e]
 refine ⟨g,k*5,by rw [Option.map_some,Addr.add_mid,Nat.zero_add],hl,?_⟩
 intro i x hx j v hv
 rw [List.getElem?_drop] at hx
 have:=hc2 (k+i) x hx j v hv
 rw [show k*5+i*5+j=(k+i)*5+j by omega]
 exact this
theorem apart_any (p:Option Addr) (cap:Nat) (ns:List Int) (a kk:Int) (w:World) (hp:NumsP w p ns) (h64:∀n∈ns,In64 n) (hl:ns.length≤maxLen) (ha:In64 a) (hkk:In64 kk) :
  Calls Tryz.prog 4 #[.slice p ns.length cap,.int .i64 a,.int .i64 kk] w fun e w'=>e=.returned (.bool true)∧Nw w w':=by
 have HST:Hid (Calls Tryz.prog 9 #[.slice p ns.length cap,.int .i64 12] w fun e w'=>∃v,e=.returned v∧Eb w w' v (strTo ns (min ns.length 12)).1):=stream_any p cap 12 ns w hp h64 hl (by omega)
 have HL12:Hid ((strTo ns (min ns.length 12)).1.length≤12):=by show _≤_;rw [strTo_len ns _ (by omega)];omega
 have HLE:Hid (∀e∈(strTo ns (min ns.length 12)).1,EvOk e):=str_ok ns h64 _ (by omega)
 have HLG:Hid (GoesE (bI ⟨#[49,49,49]⟩) 0 (strTo ns (min ns.length 12)).1):=str_goes ns _ (by omega)
 generalize (strTo ns (min ns.length 12)).1=L at HST HL12 HLE HLG
 clear hp h64 hl
 obtain ⟨k,hk⟩:∃k:Nat,pickK kk ((L.length:Int)+1)=k:=⟨(pickK kk ((L.length:Int)+1)).toNat,by have:=pickK_lt (c:=kk) (n:=(L.length:Int)+1) (by omega);omega⟩
 have hkl:k≤L.length:=by have:=pickK_lt (c:=kk) (n:=(L.length:Int)+1) (by omega);omega
 have HPK:Hid (∀W,Calls Tryz.prog 14 #[.int .i64 kk,.int .i64 ((L.length:Int)+1)] W fun e w'=>e=.returned (.int .i64 (k:Int))∧w'=W):=fun W=>by
  have:=pickK_any kk ((L.length:Int)+1) W hkk (by omega) (by have:=HL12.out;omega)
  rw [hk] at this
  exact this
 clear hk
 have hL12:=HL12.out
 have hwl:IntKind.i64.wrap ((L.length:Int)+1)=(L.length:Int)+1:=IntWalk.i64_in _ (by omega)
 go_enter Tryz.func4,Tryz.ntmps4
 go_wp2_with fail
 refine HST.out.mono ?_
 rintro e1 w1 ⟨lv,rfl,hE⟩
 obtain ⟨lp,lc,rfl,hlc,hlp⟩:=owns_form hE.own
 have HLP:Hid (∀q,lp=some q→∃g,q=⟨g,0,none⟩∧g<w1.heap.size):=hlp
 obtain ⟨hev,hge⟩:=hE.evs
 have HE1:Hid (∀W,Nw w1 W→EvsP W lp L):=fun W kW=>hev.kp kW (fun _ _ h=>h)
 have HGE1:Hid (∀W,Nw w1 W→∀g,lp=some ⟨g,0,none⟩→g<W.heap.size):=fun W kW g e=>Nat.lt_of_lt_of_le (hge g e) kW.size
 have K1:Hid (Nw w w1):=hE.nw
 clear hE hev hge HST hlp
 go_wp2_with fail
 refine (HPK.out _).mono ?_
 rintro e2 w2 ⟨rfl,rfl⟩
 go_wp2_with fail
 refine (namedK_any a w2 ha).mono ?_
 rintro e3 w3 ⟨s,code,rfl,hN,k3⟩
 have K3:Hid (Nw w2 w3):=k3
 have HAP:Hid (ApK s code L k):=hN.apart hL12 HLG.out k
 clear hN k3 HPK
 have HF0:Hid (∀W,Nw w2 W→Calls Tryz.prog 11 #[.string s,.slice lp L.length lc] W fun e w'=>∃v hs,e=.returned (.tuple #[v,.bool true])∧Mds w' W.heap.size v hs∧hs.map (·.2)=outS (bI ⟨#[49,49,49]⟩) code (beginsS code) 200 200 ⟨[],0,0,false⟩ L∧Nw W w'):=fun W kW=>found_any _ _ lp lc L W HAP.out.p0 (HE1.out W kW) (HGE1.out W kW) (by omega) HLE.out
 have HF1:Hid (∀W cc,Nw w2 W→Calls Tryz.prog 11 #[.string s,.slice (if lc=k then lp else lp.map (fun x=>x.add (k*5))) (L.length - k) cc] W fun e w'=>∃v hs,e=.returned (.tuple #[v,.bool true])∧Mds w' W.heap.size v hs∧hs.map (·.2)=outS (bI ⟨#[49,49,49]⟩) code (beginsS code) 200 200 ⟨[],0,0,false⟩ (L.drop k)∧Nw W w'):=fun W cc kW=>by
  have:=foundO_any s code (if lc=k then lp else lp.map (fun x=>x.add (k*5))) cc (L.drop k) W HAP.out.p1 (evs_drop (HE1.out W kW) k lc hkl hlc) (by
   intro g o e
   cases hq:lp with
   | none=>rw [hq] at e;simp at e
   | some q =>
    obtain ⟨qb,rfl,hql⟩:=HLP.out q hq
    have hb:qb=g:=by
     rw [hq] at e
     split at e
     ·cases e;rfl
     ·rw [Option.map_some,Addr.add_mid] at e;cases e;rfl
    subst hb
    exact Nat.lt_of_lt_of_le hql kW.size) (by rw [List.length_drop];omega) (fun e he=>HLE.out e (List.mem_of_mem_drop he))
  rw [List.length_drop] at this
  exact this
 have hk0:(0:Int)≤(k:Int):=by omega
 have hk1:(k:Int)≤(L.length:Int):=by omega
 obtain ⟨pp,hif⟩:∃pp,(if lc=k then lp else Option.map (fun x=>x.add (k*5)) lp)=pp:=⟨_,rfl⟩
 rw [hif] at HF1
 have HAW:Hid (∀W,Nw w2 W→Calls Tryz.prog 12 #[.slice lp L.length lc] W fun e w'=>e=.returned (.bool true)∧Nw W w'):=fun W kW=>awake_any lp lc L W (HE1.out W kW) (HGE1.out W kW) (by omega) HLE.out HLG.out
 have HLO0:Hid ((outS (bI ⟨#[49,49,49]⟩) code (beginsS code) 200 200 ⟨[],0,0,false⟩ L).length=L.length):=outS_len _ _ _ _ _ _ _
 have HLO1:Hid ((outS (bI ⟨#[49,49,49]⟩) code (beginsS code) 200 200 ⟨[],0,0,false⟩ (L.drop k)).length=L.length - k):=by show _=_;rw [outS_len,List.length_drop]
 have HJJ:Hid (∀(j:Nat) (A B:List Mt),(outS (bI ⟨#[49,49,49]⟩) code (beginsS code) 200 200 ⟨[],0,0,false⟩ L)[k+j]? = some A→(outS (bI ⟨#[49,49,49]⟩) code (beginsS code) 200 200 ⟨[],0,0,false⟩ (L.drop k))[j]? = some B→A.filter (fun m=>decide ((k:Int)≤m.first))=B.map (mvM k)):=HAP.out.ap
 have HO0:Hid (∀l∈outS (bI ⟨#[49,49,49]⟩) code (beginsS code) 200 200 ⟨[],0,0,false⟩ L,l.length≤200∧∀m∈l,MtS m):=HAP.out.a
 have HO1:Hid (∀l∈outS (bI ⟨#[49,49,49]⟩) code (beginsS code) 200 200 ⟨[],0,0,false⟩ (L.drop k),l.length≤200∧∀m∈l,MtS m):=HAP.out.b
 clear HAP HE1 HGE1 HLP
 generalize outS (bI ⟨#[49,49,49]⟩) code (beginsS code) 200 200 ⟨[],0,0,false⟩ L=O0 at HF0 HJJ HO0 HLO0
 generalize outS (bI ⟨#[49,49,49]⟩) code (beginsS code) 200 200 ⟨[],0,0,false⟩ (L.drop k)=O1 at HF1 HJJ HO1 HLO1
 go_wp2_with fail
 refine (HF0.out _ K3.out).mono ?_
 rintro e4 w4 ⟨v0,hs0,rfl,hm0,ho0,k4⟩
 have hn0:hs0.length=L.length:=by have h1:=congrArg List.length ho0;simp at h1;rw [h1,HLO0.out]
 obtain ⟨vp0,vc0,rfl⟩:=ownsLenX hm0.row
 have M0:Hid (Mds w4 w3.heap.size (.slice vp0 L.length vc0) hs0):=by rw [hn0] at hm0;exact hm0
 rw [hn0]
 have HN0:Hid (hs0.length=L.length):=hn0
 have HQ0:Hid (hs0.map (·.2)=O0):=ho0
 have K4:Hid (Nw w2 w4):=K3.out.trans k4
 clear hm0 ho0 k4 HF0 hn0
 go_wp2_with fail
 refine (HF1.out _ _ K4.out).mono ?_
 rintro e5 w5 ⟨v1,hs1,rfl,hm1,ho1,k5⟩
 clear hif
 obtain ⟨n1,hn1⟩:∃n1,L.length - k=n1:=⟨_,rfl⟩
 have HN11:Hid (L.length - k=n1):=hn1
 have hn1':hs1.length=n1:=by have h1:=congrArg List.length ho1;simp at h1;rw [h1,HLO1.out,hn1]
 obtain ⟨vp1,vc1,rfl⟩:=ownsLenX hm1.row
 have M1:Hid (Mds w5 w4.heap.size (.slice vp1 n1 vc1) hs1):=by rw [hn1'] at hm1;exact hm1
 rw [hn1']
 have HN1:Hid (hs1.length=n1):=hn1'
 have HQ1:Hid (hs1.map (·.2)=O1):=ho1
 have K5:Hid (Nw w2 w5):=K4.out.trans k5
 have KK1:Hid (Nw w4 w5):=k5
 clear hm1 ho1 k5 HF1 hn1' hn1
 go_wp2_with fail
 refine (HAW.out _ K5.out).mono ?_
 rintro e6 w6 ⟨rfl,k6⟩
 have R0:Hid (Mds w6 w3.heap.size (.slice vp0 L.length vc0) hs0):=(M0.out.kp KK1.out (fun _ _ _ h=>h)).kp k6 (fun _ _ _ h=>h)
 have R1:Hid (Mds w6 w4.heap.size (.slice vp1 n1 vc1) hs1):=M1.out.kp k6 (fun _ _ _ h=>h)
 have K6:Hid (Nw w w6):=K1.out.trans (K5.out.trans k6)
 clear k6 HAW M0 M1 KK1 K3 K4 K5 K1
 obtain ⟨i1,hi1,hy0,hy1,hy2⟩:=info_parts Tryz.infoMts
 obtain ⟨dm,hmu,hmd⟩:=Option.map_eq_some_iff.1 Tryz.rowMt
 have HMU:Hid (Tryz.prog.underlying 36=some dm):=hmu
 have HMD:Hid (dm.isRow=true):=hmd
 clear hmu hmd
 have HKL:Hid (k≤L.length):=hkl
 have HK100:Hid (k≤100):=by show _≤_;omega
 clear hkl hlc
 go_wp2
 go_loopg [14] (L.length - k) (fun m v14 wr=>∃i:Nat,v14=.int .i64 (i:Int)∧m=L.length - i∧k≤i∧i≤L.length∧Nw w6 wr)
 case atStart=>exact ⟨k,rfl,rfl,Nat.le_refl _,HKL.out,Kp.refl _ _⟩
 case round =>
  obtain ⟨i,rfl,hmm,hki,hil,hN⟩:=hrel
  have HMM:Hid (_=L.length - i):=hmm
  have HN:Hid (Nw w6 wr):=hN
  have HKI:Hid (k≤i):=hki
  clear hmm hN
  by_cases hi:i<L.length
  ·obtain ⟨j,hj⟩:∃j,i=k+j:=⟨i - k,by omega⟩
   have HIJ:Hid (i=k+j):=hj
   have hsub:(i:Int) - (k:Int)=(j:Int):=by omega
   have hjn:j<n1:=by have:=HN11.out;omega
   have hii:(i:Int)<L.length:=by omega
   have hjj:(j:Int)<n1:=by omega
   clear hj hki
   obtain ⟨x0,hx0⟩:∃x,hs0[i]? = some x:=⟨hs0[i]'(by rw [HN0.out];exact hi),by simp [HN0.out,hi]⟩
   obtain ⟨x1,hx1⟩:∃x,hs1[j]? = some x:=⟨hs1[j]'(by rw [HN1.out];exact hjn),by simp [HN1.out,hjn]⟩
   obtain ⟨mv0,ml0⟩:=x0
   obtain ⟨mv1,ml1⟩:=x1
   have hml0:O0[k+j]? = some ml0:=by rw [←HQ0.out,←HIJ.out];simp [hx0]
   have hml1:O1[j]? = some ml1:=by rw [←HQ1.out];simp [hx1]
   have HFL:Hid (ml0.filter (fun m=>decide ((k:Int)≤m.first))=ml1.map (mvM k)):=HJJ.out j ml0 ml1 hml0 hml1
   obtain ⟨hol0,hom0⟩:=HO0.out _ (List.mem_of_getElem? hml0)
   obtain ⟨hol1,hom1⟩:=HO1.out _ (List.mem_of_getElem? hml1)
   have HOM1:Hid (∀m∈ml1,MtS m):=hom1
   have hme0:=R0.out.each _ (List.mem_of_getElem? hx0)
   have hme1:=R1.out.each _ (List.mem_of_getElem? hx1)
   simp only at hme0 hme1
   obtain ⟨mp0,mc0,e20⟩:=ownsLenX hme0
   obtain ⟨mp1,mc1,e21⟩:=ownsLenX hme1
   subst e20
   subst e21
   have hrow0:=R0.out.row
   have hrow1:=R1.out.row
   rw [HN0.out] at hrow0
   rw [HN1.out] at hrow1
   obtain ⟨ga0,ca0,e30⟩:=owns_some hrow0 (by omega)
   obtain ⟨ga1,ca1,e31⟩:=owns_some hrow1 (by omega)
   simp only [Value.slice.injEq,true_and] at e30 e31
   obtain ⟨rfl,rfl⟩:=e30
   obtain ⟨rfl,rfl⟩:=e31
   have HC0:Hid (∀W,Nw wr W→W.cell? ⟨ga0,i,none⟩=some (.slice mp0 ml0.length mc0)):=by
    intro W kW
    exact owns_cell (owns_kp hrow0 (HN.out.trans kW) (fun _ _ h=>h)) i (by simp [hx0])
   have HC1:Hid (∀W,Nw wr W→W.cell? ⟨ga1,j,none⟩=some (.slice mp1 ml1.length mc1)):=by
    intro W kW
    exact owns_cell (owns_kp hrow1 (HN.out.trans kW) (fun _ _ h=>h)) j (by simp [hx1])
   have HM0:Hid (∀W,Nw wr W→MtsP W mp0 ml0):=fun W kW=>mts_of0 (owns_kp hme0 (HN.out.trans kW) (fun _ _ h=>h))
   have HM1:Hid (∀W,Nw wr W→MtsP W mp1 ml1):=fun W kW=>mts_of0 (owns_kp hme1 (HN.out.trans kW) (fun _ _ h=>h))
   clear hme0 hme1 hrow0 hrow1 hx0 hx1 hml0 hml1 hom0 hom1
   generalize wr=wo at *
   have q0:=HC0.out wo (Kp.refl _ _)
   go_wp2
   go_loopg [15,16] ml0.length (fun m v15 v16 wk=>∃n:Nat,v16=.int .i64 (n:Int)∧m=ml0.length - n∧n≤ml0.length∧wk.ownsRow wo.heap.size 36 6 v15 ((ml0.take n).filter (fun m=>decide ((k:Int)≤m.first))).length (mtsC ((ml0.take n).filter (fun m=>decide ((k:Int)≤m.first))))∧Nw wo wk)
   case atStart=>exact ⟨0,rfl,rfl,by omega,by simpa [mtsC] using World.ownsRow_nil wo wo.heap.size 36 6,Kp.refl _ _⟩
   case round =>
    obtain ⟨n,rfl,hnm,hnl,hv,hk2⟩:=hrel
    have HNM:Hid (_=ml0.length - n):=hnm
    have HV:Hid (wr.ownsRow wo.heap.size 36 6 u15 ((ml0.take n).filter (fun m=>decide ((k:Int)≤m.first))).length (mtsC ((ml0.take n).filter (fun m=>decide ((k:Int)≤m.first))))):=hv
    have HK2:Hid (Nw wo wr):=hk2
    have hfl:((ml0.take n).filter (fun m=>decide ((k:Int)≤m.first))).length≤200:=Nat.le_trans (List.length_filter_le _ _) (by rw [List.length_take];omega)
    have hwo:wo.heap.size≤wr.heap.size:=hk2.size
    have q1:=HC0.out wr hk2
    clear hnm hv q0
    by_cases hn:n<ml0.length
    ·obtain ⟨x,hx⟩:∃x,ml0[n]? = some x:=⟨ml0[n],by simp [hn]⟩
     have hne:¬ml0=[]:=by intro e;rw [e] at hx;simp at hx
     obtain ⟨gm,rfl,hgm,hcr⟩:=HM0.out wr hk2 hne
     have HRX:Hid (wr.rangeAt gm (n*6) (mtC x)):=hcr n x hx
     have HX:Hid (ml0[n]? = some x):=hx
     obtain ⟨xf,xl,x0,x1,x2,x3⟩:=x
     have d0:wr.cell? ⟨gm,n*6,none⟩=some (.int .i64 xf):=by have:=hcr n _ hx 0 _ rfl;simpa using this
     have HSML:Hid ((Tryz.prog.info? 36).map (·.size)=some ([.int .i64 xf,.int .i64 xl,.int .i64 x0,.int .i64 x1,.int .i64 x2,.int .i64 x3]:List Value).length):=Tryz.sizeMt
     have hnn:(n:Int)<ml0.length:=by omega
     clear hcr hx hne hgm hk2
     have HRX2:Hid (wr.rangeAt gm (n*6) [.int .i64 xf,.int .i64 xl,.int .i64 x0,.int .i64 x1,.int .i64 x2,.int .i64 x3]):=HRX.out
     by_cases hf:(k:Int)≤xf
     ·obtain ⟨vp,vc,hve⟩:=ownsLenX HV.out
      have hvv:=HV.out
      subst hve
      generalize hlen:((ml0.take n).filter (fun m=>decide ((k:Int)≤m.first))).length=fl at *
      have HFN:Hid (((ml0.take n).filter (fun m=>decide ((k:Int)≤m.first))).length=fl):=hlen
      have HVV:Hid (wr.ownsRow wo.heap.size 36 6 (.slice vp fl vc) fl (mtsC ((ml0.take n).filter (fun m=>decide ((k:Int)≤m.first))))):=hvv
      clear hvv hlen HV
      go_wp2_with (first|(with_reducible (show Go.wpList _ _ _ ({ dst:=_,op:=Op.load 36 _,type:=_,pos:=_,after:=_,guard:=_ }::_) _ _);refine wpList_load_mid rfl 36 _ rfl gm (n*6) rfl [.int .i64 xf,.int .i64 xl,.int .i64 x0,.int .i64 x1,.int .i64 x2,.int .i64 x3] dm HRX2.out HMU.out HMD.out HSML.out ?_)|(at_builtin;refine wpList_append_lies _ rfl _ _ 33 rfl wo.heap.size 36 i1 (.agg #[int i64 0,int i64 0,int i64 0,int i64 0,int i64 0,int i64 0]) 6 48 Tryz.unMts hi1 hy0 hy1 hy2 rfl (by decide) _ _ _ rfl (HVV.out.alloc _) ⟨wr.heap.size,0,none⟩ 1 1 [.int .i64 xf,.int .i64 xl,.int .i64 x0,.int .i64 x1,.int .i64 x2,.int .i64 x3] rfl rfl ?b1 ?b2 (by decide) ?b3 ?b4 ?b5 _ rfl ?_)|fail)
      case b1=>intro j' u hu;rw [Addr.add_mid];exact (Bx.new wr [.int .i64 xf,.int .i64 xl,.int .i64 x0,.int .i64 x1,.int .i64 x2,.int .i64 x3] 36).r j' u hu
      case b2=>intro u hu;simp only [List.mem_cons,List.not_mem_nil,or_false] at hu;rcases hu with e|e|e|e|e|e <;> rw [e] <;> rfl
      case b3=>unfold maxLen;omega
      case b4=>omega
      case b5=>simp;omega
      intro g3 cap3 w3' hown3 hgrow hat hlt
      have e2:(ml0.take (n+1)).filter (fun m=>decide ((k:Int)≤m.first))=(ml0.take n).filter (fun m=>decide ((k:Int)≤m.first))++[⟨xf,xl,x0,x1,x2,x3⟩]:=by
       rw [List.take_add_one,HX.out,Option.toList_some,List.filter_append]
       congr 1
       simp [hf]
      have HV3:Hid (w3'.ownsRow wo.heap.size 36 6 (.slice (some ⟨g3,0,none⟩) (fl+1) cap3) ((ml0.take (n+1)).filter (fun m=>decide ((k:Int)≤m.first))).length (mtsC ((ml0.take (n+1)).filter (fun m=>decide ((k:Int)≤m.first))))):=by
       show World.ownsRow _ _ _ _ _ _ _
       rw [e2,List.length_append,HFN.out,mtsC_app]
       simpa [mtsC,mtC] using hown3
      have HK3:Hid (Nw wo w3'):=(HK2.out.alloc _).grown hgrow (fun b hb=>Or.inl (HVV.out.lt b hb).1)
      clear hown3 hgrow hat e2
      go_wp2
      go_roundg (ml0.length - (n+1))
      case measure=>rw [HNM.out];omega
      case rel=>exact ⟨n+1,by simp,rfl,by omega,HV3.out,HK3.out⟩
     ·have HV3:Hid (wr.ownsRow wo.heap.size 36 6 u15 ((ml0.take (n+1)).filter (fun m=>decide ((k:Int)≤m.first))).length (mtsC ((ml0.take (n+1)).filter (fun m=>decide ((k:Int)≤m.first))))):=by
       have e2:(ml0.take (n+1)).filter (fun m=>decide ((k:Int)≤m.first))=(ml0.take n).filter (fun m=>decide ((k:Int)≤m.first)):=by
        rw [List.take_add_one,HX.out,Option.toList_some,List.filter_append]
        simp [hf]
       show World.ownsRow _ _ _ _ _ _ _
       rw [e2];exact HV.out
      clear HV
      go_wp2
      go_roundg (ml0.length - (n+1))
      case measure=>rw [HNM.out];omega
      case rel=>exact ⟨n+1,by simp,rfl,by omega,HV3.out,HK2.out⟩
    ·have hnn:¬(n:Int)<ml0.length:=by omega
     have hne2:ml0.take n=ml0:=List.take_of_length_le (by omega)
     have HV2:Hid (wr.ownsRow wo.heap.size 36 6 u15 (ml1.map (mvM k)).length (mtsC (ml1.map (mvM k)))):=by
      have:=HV.out
      rw [hne2,HFL.out] at this
      exact this
     obtain ⟨vp,vc,hve⟩:=ownsLenX HV2.out
     subst hve
     have q2:=HC1.out wr hk2
     clear hne2 HV hfl hk2
     generalize wr=wl at *
     rw [List.length_map] at HV2
     rw [List.length_map]
     go_wp2
     clear hnn hn hnl HNM q1
     go_loopg [17,18] ml1.length (fun m v17 v18 wk=>∃n:Nat,v18=.int .i64 (n:Int)∧m=ml1.length - n∧n≤ml1.length∧wk.ownsRow wl.heap.size 36 6 v17 n (mtsC ((ml1.take n).map (mvM k)))∧Nw wl wk)
     case atStart=>exact ⟨0,rfl,rfl,by omega,by simpa [mtsC] using World.ownsRow_nil wl wl.heap.size 36 6,Kp.refl _ _⟩
     case round =>
      obtain ⟨n,rfl,hnm,hnl,hv,hk3⟩:=hrel
      have HNM:Hid (_=ml1.length - n):=hnm
      have HK3:Hid (Nw wl wr):=hk3
      have q3:=HC1.out wr (HK2.out.trans hk3)
      obtain ⟨hp,hcc,hve⟩:=ownsLenX hv
      subst hve
      have HV:Hid (wr.ownsRow wl.heap.size 36 6 (.slice hp n hcc) n (mtsC ((ml1.take n).map (mvM k)))):=hv
      clear hnm hv q2
      by_cases hn:n<ml1.length
      ·obtain ⟨x,hx⟩:∃x,ml1[n]? = some x:=⟨ml1[n],by simp [hn]⟩
       have hne:¬ml1=[]:=by intro e;rw [e] at hx;simp at hx
       obtain ⟨gm,rfl,hgm,hcr⟩:=HM1.out wr (HK2.out.trans hk3) hne
       have HRX:Hid (wr.rangeAt gm (n*6) (mtC x)):=hcr n x hx
       have HX:Hid (ml1[n]? = some x):=hx
       have HXS:Hid (MtS x):=HOM1.out x (List.mem_of_getElem? hx)
       have hnn:(n:Int)<ml1.length:=by omega
       have HT0:Hid ((wr.alloc (.cells #[int i64 0,int i64 0,int i64 0,int i64 0,int i64 0,int i64 0] 36)).there wr.heap.size 0 (mtC x).toArray.size):=box_there2 wr x
       obtain ⟨hb1,hb2⟩:=box_mt2 wr x
       have HBX:Hid (Bx ((wr.alloc (.cells #[int i64 0,int i64 0,int i64 0,int i64 0,int i64 0,int i64 0] 36)).setCells wr.heap.size 0 (mtC x)) wr.heap.size (mtC x)):=hb1
       have HKX:Hid (Nw wr ((wr.alloc (.cells #[int i64 0,int i64 0,int i64 0,int i64 0,int i64 0,int i64 0] 36)).setCells wr.heap.size 0 (mtC x))):=hb2
       have HSML:Hid ((Tryz.prog.info? 36).map (·.size)=some (mtC x).length):=Tryz.sizeMt
       clear hb1 hb2 hcr hx hne hgm hk3
       generalize hwx:(wr.alloc (.cells #[int i64 0,int i64 0,int i64 0,int i64 0,int i64 0,int i64 0] 36)).setCells wr.heap.size 0 (mtC x)=wb at HBX HKX
       have HWX:Hid ((wr.alloc (.cells #[int i64 0,int i64 0,int i64 0,int i64 0,int i64 0,int i64 0] 36)).setCells wr.heap.size 0 (mtC x)=wb):=hwx
       clear hwx
       have c0:=HBX.out.cell (k:=0) (v:=.int .i64 x.first) rfl
       have c1:=HBX.out.cell (k:=1) (v:=.int .i64 x.last) rfl
       have cz:=HBX.out.z
       have hw0:IntKind.i64.wrap (x.first+(k:Int))=x.first+(k:Int):=IntWalk.i64_in _ (by have:=HXS.out.f;have:=HK100.out;omega)
       have hw1:IntKind.i64.wrap (x.last+(k:Int))=x.last+(k:Int):=IntWalk.i64_in _ (by have:=HXS.out.l;have:=HK100.out;omega)
       have HB0:Hid (Bx ((wb.setCell ⟨wr.heap.size,0,none⟩ (.int .i64 (x.first+(k:Int)))).setCell ⟨wr.heap.size,1,none⟩ (.int .i64 (x.last+(k:Int)))) wr.heap.size (pmC x k 0)):=(HBX.out.set 0 (.int .i64 (x.first+(k:Int)))).set 1 (.int .i64 (x.last+(k:Int)))
       have HK0:Hid (Nw wr ((wb.setCell ⟨wr.heap.size,0,none⟩ (.int .i64 (x.first+(k:Int)))).setCell ⟨wr.heap.size,1,none⟩ (.int .i64 (x.last+(k:Int))))):=(HKX.out.setCell (p:=⟨wr.heap.size,0,none⟩) (Or.inl (Nat.le_refl _)) _).setCell (p:=⟨wr.heap.size,1,none⟩) (Or.inl (Nat.le_refl _)) _
       generalize hBB:wr.heap.size=BB at *
       go_wp2_with (first|(with_reducible (show Go.wpList _ _ _ ({ dst:=_,op:=Op.load 36 _,type:=_,pos:=_,after:=_,guard:=_ }::_) _ _);refine wpList_load_mid rfl 36 _ rfl gm (n*6) rfl (mtC x) dm HRX.out HMU.out HMD.out HSML.out ?_)|(with_reducible (show Go.wpList _ _ _ ({ dst:=_,op:=Op.store 36 _ _,type:=_,pos:=_,after:=_,guard:=_ }::_) _ _);refine wpList_store_mid rfl 36 _ _ rfl BB 0 (mtC x).toArray rfl rfl HT0.out (size_mtA x) (all_oneCell_toArray (mtC_one x)) ?_;rw [HWX.out])|fail)
       have HBB:Hid (wr.heap.size=BB):=hBB
       clear hBB c0 c1 cz hw0 hw1 HBX HKX HT0 HWX HRX
       generalize (wb.setCell ⟨BB,0,none⟩ (.int .i64 (x.first+(k:Int)))).setCell ⟨BB,1,none⟩ (.int .i64 (x.last+(k:Int)))=wc at *
       generalize wr=wq at *
       go_loopg [20] 4 (fun m v20 wk=>∃h:Nat,v20=.int .i64 (h:Int)∧m=4 - h∧h≤4∧Bx wk BB (pmC x k h)∧Nw wq wk)
       case atStart=>exact ⟨0,rfl,rfl,by omega,HB0.out,HK0.out⟩
       case round =>
        obtain ⟨h,rfl,hhm,hhl,hbx,hk4⟩:=hrel
        have HHM:Hid (_=4 - h):=hhm
        have HBH:Hid (Bx wr BB (pmC x k h)):=hbx
        have HKH:Hid (Nw wq wr):=hk4
        clear hhm hbx hk4
        by_cases hh:h<4
        ·have hhi:(h:Int)<4:=by omega
         have ch:=HBH.out.cell (pmC_get x k h hh)
         have cz:=HBH.out.z
         have HMV:Hid (∀W,Calls Tryz.prog 16 #[.int .i64 (hdM x h),.int .i64 (k:Int)] W fun e w'=>e=.returned (.int .i64 (mvI (hdM x h) k))∧w'=W):=fun W=>movedK_any _ k W (HXS.out.hd h) HK100.out
         have HB1:Hid (Bx (wr.setCell ⟨BB,2+h,none⟩ (.int .i64 (mvI (hdM x h) k))) BB (pmC x k (h+1))):=by
          have:=HBH.out.set (2+h) (.int .i64 (mvI (hdM x h) k))
          rw [pmC_next x k h hh] at this
          exact this
         have HK1:Hid (Nw wq (wr.setCell ⟨BB,2+h,none⟩ (.int .i64 (mvI (hdM x h) k)))):=HKH.out.setCell (p:=⟨BB,2+h,none⟩) (Or.inl (by rw [HBB.out];exact Nat.le_refl _)) _
         generalize mvI (hdM x h) k=y at *
         generalize hdM x h=z at *
         go_wp2_with fail
         refine (HMV.out _).mono ?_
         rintro e7 w7 ⟨rfl,rfl⟩
         go_wp2
         clear ch cz
         generalize w7.setCell ⟨BB,2+h,none⟩ (.int .i64 y)=wd at *
         go_roundg (4 - (h+1))
         case measure=>rw [HHM.out];omega
         case rel=>exact ⟨h+1,by simp,rfl,by omega,HB1.out,HK1.out⟩
        ·have hhi:¬(h:Int)<4:=by omega
         have h4:h=4:=by omega
         subst h4
         have HRY:Hid (wr.rangeAt BB 0 (mtC (mvM k x))):=HBH.out.r
         have HXO:Hid (mtsC ((ml1.take (n+1)).map (mvM k))=mtsC ((ml1.take n).map (mvM k))++mtC (mvM k x)):=by
          show _=_
          rw [List.take_add_one,HX.out,Option.toList_some,List.map_append,mtsC_app]
          simp [mtsC]
         have HV5:Hid (wr.ownsRow wl.heap.size 36 6 (.slice hp n hcc) n (mtsC ((ml1.take n).map (mvM k)))):=owns_kp HV.out HKH.out (fun _ _ h=>h)
         have hlw:wl.heap.size≤wr.heap.size:=Nat.le_trans HK3.out.size HKH.out.size
         have hn200:n≤200:=by omega
         generalize mvM k x=Y at *
         obtain ⟨yf,yl,y0,y1,y2,y3⟩:=Y
         have HRY2:Hid (wr.rangeAt BB 0 [.int .i64 yf,.int .i64 yl,.int .i64 y0,.int .i64 y1,.int .i64 y2,.int .i64 y3]):=HRY.out
         have HSML2:Hid ((Tryz.prog.info? 36).map (·.size)=some ([.int .i64 yf,.int .i64 yl,.int .i64 y0,.int .i64 y1,.int .i64 y2,.int .i64 y3]:List Value).length):=Tryz.sizeMt
         clear HRY HSML
         have HSML:=HSML2
         clear HSML2 HBH HV
         go_wp2_with (first|(with_reducible (show Go.wpList _ _ _ ({ dst:=_,op:=Op.load 36 _,type:=_,pos:=_,after:=_,guard:=_ }::_) _ _);refine wpList_load_mid rfl 36 _ rfl BB (0) rfl [.int .i64 yf,.int .i64 yl,.int .i64 y0,.int .i64 y1,.int .i64 y2,.int .i64 y3] dm HRY2.out HMU.out HMD.out HSML.out ?_)|(at_builtin;refine wpList_append_lies _ rfl _ _ 33 rfl wl.heap.size 36 i1 (.agg #[int i64 0,int i64 0,int i64 0,int i64 0,int i64 0,int i64 0]) 6 48 Tryz.unMts hi1 hy0 hy1 hy2 rfl (by decide) _ _ _ rfl (HV5.out.alloc _) ⟨wr.heap.size,0,none⟩ 1 1 [.int .i64 yf,.int .i64 yl,.int .i64 y0,.int .i64 y1,.int .i64 y2,.int .i64 y3] rfl rfl ?f1 ?f2 (by decide) ?f3 ?f4 ?f5 _ rfl ?_)|fail)
         try (case f1=>intro j' u hu;rw [Addr.add_mid];exact (Bx.new wr [.int .i64 yf,.int .i64 yl,.int .i64 y0,.int .i64 y1,.int .i64 y2,.int .i64 y3] 36).r j' u hu)
         case f2=>first|exact ⟨rfl,rfl,rfl,rfl,rfl,rfl⟩ | (intro u hu;simp only [List.mem_cons,List.not_mem_nil,or_false] at hu;rcases hu with e|e|e|e|e|e <;> rw [e] <;> rfl)
         case f3=>unfold maxLen;omega
         case f4=>omega
         case f5=>first|omega|(simp;omega)
         intro g3 cap3 w3' hown3 hgrow hat hlt
         have HV6:Hid (w3'.ownsRow wl.heap.size 36 6 (.slice (some ⟨g3,0,none⟩) (n+1) cap3) (n+1) (mtsC ((ml1.take (n+1)).map (mvM k)))):=by
          show World.ownsRow _ _ _ _ _ _ _
          rw [HXO.out]
          first|exact hown3|(rw [←List.map_take] at hown3;exact hown3)|(rw [List.map_take];exact hown3)
         have HK6:Hid (Nw wl w3'):=((HK3.out.trans HKH.out).alloc _).grown hgrow (fun b hb=>Or.inl (HV5.out.lt b hb).1)
         clear hown3 hgrow hat
         go_wp2
         go_roundg (ml1.length - (n+1))
         case measure=>rw [HNM.out];omega
         case rel=>exact ⟨n+1,by simp,rfl,by omega,HV6.out,HK6.out⟩
      ·have hnn:¬(n:Int)<ml1.length:=by omega
       have hnl2:n=ml1.length:=by omega
       subst hnl2
       have HV6:Hid (wr.ownsRow wl.heap.size 36 6 (.slice hp ml1.length hcc) ml1.length (mtsC (ml1.map (mvM k)))):=by
        have:=HV.out
        rw [List.take_length] at this
        exact this
       have HV7:Hid (wr.ownsRow wo.heap.size 36 6 (.slice vp ml1.length vc) ml1.length (mtsC (ml1.map (mvM k)))):=owns_kp HV2.out HK3.out (fun _ _ h=>h)
       have HSM:Hid (Calls Tryz.prog 17 #[.slice vp ml1.length vc,.slice hp ml1.length hcc] wr fun e w'=>e=.returned (.bool true)∧Nw wr w'):=by
        have e:ml1.length=(ml1.map (mvM k)).length:=by simp
        have h6:=HV6.out
        have h7:=HV7.out
        rw [e] at h6 h7
        have:=sameM_same vp hp vc hcc (ml1.map (mvM k)) wr (mts_of0 h7) (mts_of0 h6) (by rw [List.length_map];omega) (by
         intro m hm
         obtain ⟨m',hm',rfl⟩:=List.mem_map.1 hm
         exact (HOM1.out m' hm').mv HK100.out)
        rw [List.length_map] at this
        exact this
       clear HV HV6 HV7
       go_wp2_with fail
       refine HSM.out.mono ?_
       rintro e7 w7 ⟨rfl,k7⟩
       have K7:Hid (Nw w6 w7):=((HN.out.trans HK2.out).trans HK3.out).trans k7
       clear k7 HSM
       go_wp2
       go_roundg (L.length - (i+1))
       case measure=>rw [HMM.out];omega
       case rel=>exact ⟨i+1,by simp,rfl,by have:=HKI.out;omega,by omega,K7.out⟩
  ·have hii:¬(i:Int)<L.length:=by omega
   go_wp2
   go_ret
   exact ⟨rfl,K6.out.trans HN.out⟩
section
open Go.ChangeShapes Go.WideShapes Go.ChangeAt Go.RowKit Go.Deep
theorem Tryz.tlaid:laidOutB Tryz.prog=true:=by kernel_rfl
theorem Tryz.town:ownKnob Tryz.prog.godebug=none:=by kernel_rfl
theorem Tryz.tb4:Tryz.prog.underlying 4=some .bool:=by kernel_rfl
theorem Tryz.ti3:Tryz.prog.underlying 3=some (.int .i64):=by kernel_rfl
theorem Tryz.ts22:Tryz.prog.underlying 22=some (.slice 3):=by kernel_rfl
theorem Tryz.tc3:Tryz.prog.cellsOf 3=1:=by kernel_rfl
theorem in64_wf {n:Int} (h:(Lit.int .i64 n).wf=true):In64 n:=by
 simp [Lit.wf,IntKind.min,IntKind.max,IntKind.signed,IntKind.bits] at h
 unfold In64
 omega
theorem nums_open {H:Type} {enc:TypeId×Value→H} {W:World} {held:Bool} {a0:Option Addr} {len cap:Nat} {d:DataW H} {ps:List MemPlace} (h:DataW.Trod enc Tryz.prog W 0 (fun _=>true) held 22 (.slice a0 len cap) d ps) :
  ∃ns:List Int,ns.length=len∧NumsP W a0 ns∧(∀n∈ns,In64 n)∧ns.length≤maxLen:=by
 obtain ⟨fuel,hf⟩:=h
 rcases open_ints Tryz.ts22 Tryz.ti3 Tryz.tc3 hf with ⟨hcs,_⟩ | ⟨a,len',cap',zs,hcs,_,hl,hm,hz,_,hcell,hwf⟩
 ·simp [Value.cells] at hcs
  obtain ⟨rfl,rfl,rfl⟩:=hcs
  exact ⟨[],rfl,fun h=>absurd rfl h,fun n hn=>by simp at hn,by simp⟩
 ·simp [Value.cells] at hcs
  obtain ⟨rfl,rfl,rfl⟩:=hcs
  simp only [if_true] at hz
  have hlen:(zs.take len).length=len:=by rw [List.length_take];omega
  refine ⟨zs.take len,hlen,?_,fun n hn=>in64_wf (hwf n (List.mem_of_mem_take hn)),by rw [hlen];omega⟩
  intro hne
  have h0:0<len:=by
   rcases Nat.eq_zero_or_pos len with e|e
   ·exact absurd (List.eq_nil_of_length_eq_zero (by rw [hlen];exact e)) hne
   ·exact e
  obtain ⟨b,off,spot⟩:=a
  have h00:=hcell 0 (by omega)
  have hspot:spot=none:=by simpa [Addr.add] using World.cell?_spot h00
  subst hspot
  have hadd:∀i:Nat,((⟨b,off,none⟩:Addr).add i)=⟨b,off+i,none⟩:=fun i=>by rw [Addr.add_mid]
  refine ⟨b,off,rfl,?_,?_⟩
  ·rw [hadd] at h00
   exact World.block_lt_of_cell? W ⟨b,off+0,none⟩ h00
  ·intro i n hi
   have hil:i<len:=by have:=(List.getElem?_eq_some_iff.1 hi).1;rwa [hlen] at this
   rw [List.getElem?_take_of_lt hil] at hi
   have:=hcell i (by omega)
   rw [hadd] at this
   rw [this]
   simp [List.getD,hi]
end
end Go.Proofs.YtcboiapggnmpfabGreat
