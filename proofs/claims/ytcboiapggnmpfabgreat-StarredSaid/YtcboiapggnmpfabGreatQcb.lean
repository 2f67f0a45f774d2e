import Derived.Test.YtcboiapggnmpfabGreatQca
import Derived.Test.YtcboiapggnmpfabGreatQbz
import Derived.Test.YtcboiapggnmpfabGreatRows
import Derived.JoinedOf
import Derived.KernelRfl
import Derived.Deep.MidRow
import Derived.ProofKit
import Derived.ChangeSlices
import Derived.SizedLaws
import Derived.Deep.Slices
import Derived.OpenShut
import Derived.Test.YtcboiapggnmpfabGreatQaf
namespace Go.Proofs.YtcboiapggnmpfabGreat
set_option maxRecDepth 100000
set_option maxHeartbeats 8000000
set_option linter.unusedSimpArgs false
set_option linter.unusedVariables false
open Go.RowKit
theorem Tryz.sizeS17:(Tryz.prog.info? 70).map (·.size)=some 17:=by kernel_rfl
theorem size_smallC:(Tryz.prog.info? 70).map (·.size)=some smallC.toArray.size:=by
 have e:smallC.toArray.size=17:=by simp [smallC]
 rw [e];exact Tryz.sizeS17
theorem smallC_one:∀u∈smallC,u.oneCell'=true:=by
 intro u hu
 simp only [smallC,List.mem_cons,List.not_mem_nil,or_false] at hu
 have:∃n:ByteArray,u=.string n:=by
  rcases hu with h|h|h|h|h|h|h|h|h|h|h|h|h|h|h|h|h <;> exact ⟨_,h⟩
 obtain ⟨n,rfl⟩:=this
 rfl
theorem smallK_any (c:Int) (w:World) (hc:In64 c):Calls Tryz.prog 10 #[.int .i64 c] w fun e w'=>∃s,e=.returned (.string s)∧StarT s∧Nw w w':=by
 have HP:Hid (∀W,Calls Tryz.prog 14 #[.int .i64 c,.int .i64 17] W fun e w'=>e=.returned (.int .i64 (pickK c 17))∧w'=W):=fun W=>pickK_any c 17 W hc (by omega) (by omega)
 obtain ⟨k,hk⟩:∃k:Nat,pickK c 17=k:=⟨(pickK c 17).toNat,by have:=pickK_lt (c:=c) (n:=17) (by omega);omega⟩
 have hk10:k<17:=by have:=pickK_lt (c:=c) (n:=17) (by omega);omega
 rw [hk] at HP
 obtain ⟨s,hs,hN⟩:=small_at k hk10
 have HN:Hid (StarT s):=hN
 have hB0:Bx (w.alloc (.cells #[.string ⟨#[]⟩,.string ⟨#[]⟩,.string ⟨#[]⟩,.string ⟨#[]⟩,.string ⟨#[]⟩,.string ⟨#[]⟩,.string ⟨#[]⟩,.string ⟨#[]⟩,.string ⟨#[]⟩,.string ⟨#[]⟩,.string ⟨#[]⟩,.string ⟨#[]⟩,.string ⟨#[]⟩,.string ⟨#[]⟩,.string ⟨#[]⟩,.string ⟨#[]⟩,.string ⟨#[]⟩] 70)) w.heap.size [.string ⟨#[]⟩,.string ⟨#[]⟩,.string ⟨#[]⟩,.string ⟨#[]⟩,.string ⟨#[]⟩,.string ⟨#[]⟩,.string ⟨#[]⟩,.string ⟨#[]⟩,.string ⟨#[]⟩,.string ⟨#[]⟩,.string ⟨#[]⟩,.string ⟨#[]⟩,.string ⟨#[]⟩,.string ⟨#[]⟩,.string ⟨#[]⟩,.string ⟨#[]⟩,.string ⟨#[]⟩]:=Bx.new w [.string ⟨#[]⟩,.string ⟨#[]⟩,.string ⟨#[]⟩,.string ⟨#[]⟩,.string ⟨#[]⟩,.string ⟨#[]⟩,.string ⟨#[]⟩,.string ⟨#[]⟩,.string ⟨#[]⟩,.string ⟨#[]⟩,.string ⟨#[]⟩,.string ⟨#[]⟩,.string ⟨#[]⟩,.string ⟨#[]⟩,.string ⟨#[]⟩,.string ⟨#[]⟩,.string ⟨#[]⟩] 70
 have hl0:([.string ⟨#[]⟩,.string ⟨#[]⟩,.string ⟨#[]⟩,.string ⟨#[]⟩,.string ⟨#[]⟩,.string ⟨#[]⟩,.string ⟨#[]⟩,.string ⟨#[]⟩,.string ⟨#[]⟩,.string ⟨#[]⟩,.string ⟨#[]⟩,.string ⟨#[]⟩,.string ⟨#[]⟩,.string ⟨#[]⟩,.string ⟨#[]⟩,.string ⟨#[]⟩,.string ⟨#[]⟩]:List Value).length=smallC.length:=rfl
 have HT0:Hid ((w.alloc (.cells #[.string ⟨#[]⟩,.string ⟨#[]⟩,.string ⟨#[]⟩,.string ⟨#[]⟩,.string ⟨#[]⟩,.string ⟨#[]⟩,.string ⟨#[]⟩,.string ⟨#[]⟩,.string ⟨#[]⟩,.string ⟨#[]⟩,.string ⟨#[]⟩,.string ⟨#[]⟩,.string ⟨#[]⟩,.string ⟨#[]⟩,.string ⟨#[]⟩,.string ⟨#[]⟩,.string ⟨#[]⟩] 70)).there w.heap.size 0 smallC.toArray.size):=hB0.there hl0
 have HB:Hid (Bx ((w.alloc (.cells #[.string ⟨#[]⟩,.string ⟨#[]⟩,.string ⟨#[]⟩,.string ⟨#[]⟩,.string ⟨#[]⟩,.string ⟨#[]⟩,.string ⟨#[]⟩,.string ⟨#[]⟩,.string ⟨#[]⟩,.string ⟨#[]⟩,.string ⟨#[]⟩,.string ⟨#[]⟩,.string ⟨#[]⟩,.string ⟨#[]⟩,.string ⟨#[]⟩,.string ⟨#[]⟩,.string ⟨#[]⟩] 70)).setCells w.heap.size 0 smallC.toArray.toList) w.heap.size smallC):=hB0.put hl0
 have HK:Hid (Nw w ((w.alloc (.cells #[.string ⟨#[]⟩,.string ⟨#[]⟩,.string ⟨#[]⟩,.string ⟨#[]⟩,.string ⟨#[]⟩,.string ⟨#[]⟩,.string ⟨#[]⟩,.string ⟨#[]⟩,.string ⟨#[]⟩,.string ⟨#[]⟩,.string ⟨#[]⟩,.string ⟨#[]⟩,.string ⟨#[]⟩,.string ⟨#[]⟩,.string ⟨#[]⟩,.string ⟨#[]⟩,.string ⟨#[]⟩] 70)).setCells w.heap.size 0 smallC.toArray.toList)):=((Kp.refl _ w).alloc _).trans' (kp_setCells _ 0 _) (by intro b hb h;omega)
 have hcell:=HB.out.cell hs
 have hki:(k:Int)<17:=by omega
 clear hk hs hN HB hB0 hl0
 go_enter Tryz.func10,Tryz.ntmps10
 go_wp2_with (first|(with_reducible (show Go.wpList _ _ _ ({ dst:=_,op:=Op.store 70 _ _,type:=_,pos:=_,after:=_,guard:=_ }::_) _ _);refine wpList_store_mid rfl 70 _ _ rfl w.heap.size 0 smallC.toArray rfl rfl HT0.out size_smallC (all_oneCell_toArray smallC_one) ?_;generalize (w.alloc (.cells #[.string ⟨#[]⟩,.string ⟨#[]⟩,.string ⟨#[]⟩,.string ⟨#[]⟩,.string ⟨#[]⟩,.string ⟨#[]⟩,.string ⟨#[]⟩,.string ⟨#[]⟩,.string ⟨#[]⟩,.string ⟨#[]⟩,.string ⟨#[]⟩,.string ⟨#[]⟩,.string ⟨#[]⟩,.string ⟨#[]⟩,.string ⟨#[]⟩,.string ⟨#[]⟩,.string ⟨#[]⟩] 70)).setCells w.heap.size 0 smallC.toArray.toList=W1 at *)|fail)
 refine (HP.out _).mono ?_
 rintro e1 w1 ⟨rfl,rfl⟩
 go_wp2
 go_ret
 exact ⟨s,rfl,HN.out,HK.out⟩
theorem evsR_get0 (l:List Evt):∀(i j:Nat) (x:Evt),l[i]? = some x→j<5→(evsR l)[i*5+j]? = (evC5 x)[j]?:=by
 induction l with
 | nil=>intro i j x h;simp at h
 | cons y r ih =>
  intro i j x h hj
  have e:evsR (y::r)=evC5 y++evsR r:=by simp [evsR]
  have hl:(evC5 y).length=5:=rfl
  rw [e]
  cases i with
  | zero=>simp at h;subst h;rw [List.getElem?_append_left (by omega)];simp
  | succ i =>
   simp at h
   rw [List.getElem?_append_right (by omega),hl]
   have:(i+1)*5+j - 5=i*5+j:=by omega
   rw [this];exact ih i j x h hj
theorem Eb.evs0 {W0 wr:World} {lp:Option Addr} {n c:Nat} {L:List Evt} (h:Eb W0 wr (.slice lp n c) L):EvsP wr lp L∧(∀g,lp=some ⟨g,0,none⟩→g<wr.heap.size):=by
 refine ⟨?_,?_⟩
 ·intro hne
  obtain ⟨g,c',e⟩:=owns_some h.own (List.length_pos_iff.2 hne)
  simp only [Value.slice.injEq] at e
  obtain ⟨rfl,rfl,rfl⟩:=e
  refine ⟨g,rfl,(h.own.lt g rfl).2,?_⟩
  intro i x hx j v hv
  have hj:j<5:=by have:=(List.getElem?_eq_some_iff.1 hv).1;simpa [evC5] using this
  exact owns_cell h.own (i*5+j) (by rw [evsR_get0 L i j x hx hj];exact hv)
 ·intro g e
  subst e
  exact (h.own.lt g rfl).2
theorem Mds.nw {w w':World} {B:Nat} {v:Value} {hs:List (Value×List Mt)} (h:Mds w B v hs) (k:Nw w w'):Mds w' B v hs:=h.kp k (fun _ _ _ h=>h)
theorem starred_any (p:Option Addr) (cap:Nat) (ns:List Int) (a:Int) (w:World) (hp:NumsP w p ns) (h64:∀n∈ns,In64 n) (hl:ns.length≤maxLen) (ha:In64 a) :
  Calls Tryz.prog 3 #[.slice p ns.length cap,.int .i64 a] w fun e w'=>e=.returned (.bool true)∧Nw w w':=by
 have HST:Hid (Calls Tryz.prog 9 #[.slice p ns.length cap,.int .i64 9] w fun e w'=>∃v,e=.returned v∧Eb w w' v (strTo ns (min ns.length 9)).1):=stream_any p cap 9 ns w hp h64 hl (by omega)
 have HL12:Hid ((strTo ns (min ns.length 9)).1.length≤9):=by show _≤_;rw [strTo_len ns _ (by omega)];omega
 have HLE:Hid (∀e∈(strTo ns (min ns.length 9)).1,EvOk e):=str_ok ns h64 _ (by omega)
 have HLG:Hid (GoesE (bI ⟨#[49,49,49]⟩) 0 (strTo ns (min ns.length 9)).1):=str_goes ns _ (by omega)
 generalize (strTo ns (min ns.length 9)).1=L at HST HL12 HLE HLG
 clear hp h64 hl
 go_enter Tryz.func3,Tryz.ntmps3
 go_wp2_with fail
 refine HST.out.mono ?_
 rintro e1 w1 ⟨lv,rfl,hE⟩
 obtain ⟨lp,lc,rfl⟩:=ownsLenX hE.own
 obtain ⟨hev,hge⟩:=hE.evs0
 have HE1:Hid (∀W,Nw w1 W→EvsP W lp L):=fun W kW=>hev.kp kW (fun _ _ h=>h)
 have HGE1:Hid (∀W,Nw w1 W→∀g,lp=some ⟨g,0,none⟩→g<W.heap.size):=fun W kW g e=>Nat.lt_of_lt_of_le (hge g e) kW.size
 have K1:Hid (Nw w w1):=hE.nw
 clear hE hev hge HST
 go_wp2_with fail
 refine (smallK_any a w1 ha).mono ?_
 rintro e3 w2 ⟨s,rfl,hS,k2⟩
 have K2:Hid (Nw w1 w2):=k2
 obtain ⟨c0,c1,c2,hS⟩:=hS
 obtain ⟨q0,q1,q2,o1,o2,oo⟩:=hS L HLG.out HL12.out
 have HLn:L.length≤1000:=by have:=HL12.out;omega
 have hsz:s.size≤1000:=by
  have:=q0.z
  rw [ByteArray.size_append,ByteArray.size_append] at this
  omega
 have hz1:¬9223372036854775807<1+s.size:=by omega
 have hz2:¬9223372036854775807<1+s.size+2:=by omega
 have hz3:¬9223372036854775807<1+s.size+5:=by omega
 clear hsz
 have HF0:Hid (∀W,Nw w1 W→Calls Tryz.prog 11 #[.string (⟨#[40]⟩++s++⟨#[41,42]⟩),.slice lp L.length lc] W fun e w'=>∃v hs,e=.returned (.tuple #[v,.bool true])∧Mds w' W.heap.size v hs∧hs.map (·.2)=outS (bI ⟨#[49,49,49]⟩) c0 (beginsS c0) 200 200 ⟨[],0,0,false⟩ L∧Nw W w'):=fun W kW=>found_any _ _ lp lc L W q0 (HE1.out W kW) (HGE1.out W kW) HLn HLE.out
 have HF1:Hid (∀W,Nw w1 W→Calls Tryz.prog 11 #[.string (⟨#[40]⟩++s++⟨#[41,43]⟩),.slice lp L.length lc] W fun e w'=>∃v hs,e=.returned (.tuple #[v,.bool true])∧Mds w' W.heap.size v hs∧hs.map (·.2)=outS (bI ⟨#[49,49,49]⟩) c0 (beginsS c0) 200 200 ⟨[],0,0,false⟩ L∧Nw W w'):=fun W kW=>by
  have:=found_any _ _ lp lc L W q1 (HE1.out W kW) (HGE1.out W kW) HLn HLE.out
  rw [o1] at this;exact this
 have HF2:Hid (∀W,Nw w1 W→Calls Tryz.prog 11 #[.string (⟨#[40]⟩++s++⟨#[41,123,48,57,125]⟩),.slice lp L.length lc] W fun e w'=>∃v hs,e=.returned (.tuple #[v,.bool true])∧Mds w' W.heap.size v hs∧hs.map (·.2)=outS (bI ⟨#[49,49,49]⟩) c0 (beginsS c0) 200 200 ⟨[],0,0,false⟩ L∧Nw W w'):=fun W kW=>by
  have:=found_any _ _ lp lc L W q2 (HE1.out W kW) (HGE1.out W kW) HLn HLE.out
  rw [o2] at this;exact this
 have HAW:Hid (∀W,Nw w1 W→Calls Tryz.prog 12 #[.slice lp L.length lc] W fun e w'=>e=.returned (.bool true)∧Nw W w'):=fun W kW=>awake_any lp lc L W (HE1.out W kW) (HGE1.out W kW) HLn HLE.out HLG.out
 have HOO:Hid (∀l∈outS (bI ⟨#[49,49,49]⟩) c0 (beginsS c0) 200 200 ⟨[],0,0,false⟩ L,l.length≤1000∧∀m∈l,MtOk m):=oo
 have HLO:Hid ((outS (bI ⟨#[49,49,49]⟩) c0 (beginsS c0) 200 200 ⟨[],0,0,false⟩ L).length=L.length):=outS_len _ _ _ _ _ _ _
 clear hS q0 q1 q2 o1 o2 oo k2 HE1 HGE1
 generalize outS (bI ⟨#[49,49,49]⟩) c0 (beginsS c0) 200 200 ⟨[],0,0,false⟩ L=O at HF0 HF1 HF2 HOO HLO
 have HLN2:Hid (L.length≤1000):=HLn
 clear HLn
 go_wp2_with fail
 refine (HF0.out _ K2.out).mono ?_
 rintro e4 w3 ⟨v0,hs0,rfl,hm0,ho0,k3⟩
 obtain ⟨vp0,vc0,rfl⟩:=ownsLenX hm0.row
 have M0:Hid (Mds w3 w2.heap.size (.slice vp0 hs0.length vc0) hs0):=hm0
 have HO0:Hid (hs0.map (·.2)=O):=ho0
 have K3:Hid (Nw w1 w3):=K2.out.trans k3
 clear hm0 ho0 k3 HF0
 go_wp2_with fail
 refine (HF1.out _ K3.out).mono ?_
 rintro e5 w4 ⟨v1,hs1,rfl,hm1,ho1,k4⟩
 have hn1:hs1.length=hs0.length:=by have h1:=congrArg List.length ho1;have h2:=congrArg List.length HO0.out;simp at h1 h2;omega
 obtain ⟨vp1,vc1,rfl⟩:=ownsLenX hm1.row
 have M1:Hid (Mds w4 w3.heap.size (.slice vp1 hs0.length vc1) hs1):=by rw [hn1] at hm1;exact hm1
 rw [hn1]
 have HO1:Hid (hs1.map (·.2)=O):=ho1
 have K4:Hid (Nw w1 w4):=K3.out.trans k4
 have K34:Hid (Nw w3 w4):=k4
 clear hm1 ho1 k4 HF1 hn1
 go_wp2_with fail
 refine (HF2.out _ K4.out).mono ?_
 rintro e6 w5 ⟨v2,hs2,rfl,hm2,ho2,k5⟩
 have hn2:hs2.length=hs0.length:=by have h1:=congrArg List.length ho2;have h2:=congrArg List.length HO0.out;simp at h1 h2;omega
 obtain ⟨vp2,vc2,rfl⟩:=ownsLenX hm2.row
 have M2:Hid (Mds w5 w4.heap.size (.slice vp2 hs0.length vc2) hs2):=by rw [hn2] at hm2;exact hm2
 rw [hn2]
 have HO2:Hid (hs2.map (·.2)=O):=ho2
 have K5:Hid (Nw w1 w5):=K4.out.trans k5
 have K45:Hid (Nw w4 w5):=k5
 clear hm2 ho2 k5 HF2 hn2
 go_wp2_with fail
 refine (HAW.out _ K5.out).mono ?_
 rintro e7 w6 ⟨rfl,k6⟩
 have K6:Hid (Nw w1 w6):=K5.out.trans k6
 have HH:Hid (hs0.length≤1000):=by show _≤_;have h2:=congrArg List.length HO0.out;simp at h2;rw [h2,HLO.out];exact HLN2.out
 have HX:Hid (∀x∈hs0,x.2.length≤1000∧∀m∈x.2,MtOk m):=by
  intro x hx
  exact HOO.out _ (by rw [←HO0.out];exact List.mem_map.2 ⟨x,hx,rfl⟩)
 have HS1:Hid (∀W,Nw w5 W→Calls Tryz.prog 13 #[.slice vp0 hs0.length vc0,.slice vp1 hs0.length vc1] W fun e w'=>e=.returned (.bool true)∧Nw W w'):=fun W kW=>sameAll_same vp0 vp1 vc0 vc1 _ _ hs0 hs1 W (M0.out.nw ((K34.out.trans K45.out).trans kW)) (M1.out.nw (K45.out.trans kW)) (by rw [HO0.out,HO1.out]) HH.out HX.out
 have HS2:Hid (∀W,Nw w5 W→Calls Tryz.prog 13 #[.slice vp0 hs0.length vc0,.slice vp2 hs0.length vc2] W fun e w'=>e=.returned (.bool true)∧Nw W w'):=fun W kW=>sameAll_same vp0 vp2 vc0 vc2 _ _ hs0 hs2 W (M0.out.nw ((K34.out.trans K45.out).trans kW)) (M2.out.nw kW) (by rw [HO0.out,HO2.out]) HH.out HX.out
 have K56:Hid (Nw w5 w6):=k6
 clear k6 HAW
 go_wp2_with fail
 refine (HS1.out _ K56.out).mono ?_
 rintro e8 w7 ⟨rfl,k7⟩
 have K57:Hid (Nw w5 w7):=K56.out.trans k7
 clear k7 HS1
 go_wp2_with fail
 refine (HS2.out _ K57.out).mono ?_
 rintro e9 w8 ⟨rfl,k8⟩
 have K8:Hid (Nw w w8):=K1.out.trans (K5.out.trans (K57.out.trans k8))
 clear k8 HS2
 go_wp2
 go_ret
 exact ⟨rfl,K8.out⟩
section
open Go.ChangeShapes Go.WideShapes Go.ChangeAt Go.RowKit Go.Deep
theorem Tryz.tlaid:laidOutB Tryz.prog=true:=by kernel_rfl
theorem Tryz.town:ownKnob Tryz.prog.godebug=none:=by kernel_rfl
theorem Tryz.tb4:Tryz.prog.underlying 4=some .bool:=by kernel_rfl
theorem Tryz.ti3:Tryz.prog.underlying 3=some (.int .i64):=by kernel_rfl
theorem Tryz.ts22:Tryz.prog.underlying 22=some (.slice 3):=by kernel_rfl
theorem Tryz.tc3:Tryz.prog.cellsOf 3=1:=by kernel_rfl
theorem in64_wf {n:Int} (h:(Lit.int .i64 n).wf=true):In64 n:=by
 simp [Lit.wf,IntKind.min,IntKind.max,IntKind.signed,IntKind.bits] at h
 unfold In64
 omega
theorem nums_open {H:Type} {enc:TypeId×Value→H} {W:World} {held:Bool} {a0:Option Addr} {len cap:Nat} {d:DataW H} {ps:List MemPlace} (h:DataW.Trod enc Tryz.prog W 0 (fun _=>true) held 22 (.slice a0 len cap) d ps) :
  ∃ns:List Int,ns.length=len∧NumsP W a0 ns∧(∀n∈ns,In64 n)∧ns.length≤maxLen:=by
 obtain ⟨fuel,hf⟩:=h
 rcases open_ints Tryz.ts22 Tryz.ti3 Tryz.tc3 hf with ⟨hcs,_⟩ | ⟨a,len',cap',zs,hcs,_,hl,hm,hz,_,hcell,hwf⟩
 ·simp [Value.cells] at hcs
  obtain ⟨rfl,rfl,rfl⟩:=hcs
  exact ⟨[],rfl,fun h=>absurd rfl h,fun n hn=>by simp at hn,by simp⟩
 ·simp [Value.cells] at hcs
  obtain ⟨rfl,rfl,rfl⟩:=hcs
  simp only [if_true] at hz
  have hlen:(zs.take len).length=len:=by rw [List.length_take];omega
  refine ⟨zs.take len,hlen,?_,fun n hn=>in64_wf (hwf n (List.mem_of_mem_take hn)),by rw [hlen];omega⟩
  intro hne
  have h0:0<len:=by
   rcases Nat.eq_zero_or_pos len with e|e
   ·exact absurd (List.eq_nil_of_length_eq_zero (by rw [hlen];exact e)) hne
   ·exact e
  obtain ⟨b,off,spot⟩:=a
  have h00:=hcell 0 (by omega)
  have hspot:spot=none:=by simpa [Addr.add] using World.cell?_spot h00
  subst hspot
  have hadd:∀i:Nat,((⟨b,off,none⟩:Addr).add i)=⟨b,off+i,none⟩:=fun i=>by rw [Addr.add_mid]
  refine ⟨b,off,rfl,?_,?_⟩
  ·rw [hadd] at h00
   exact World.block_lt_of_cell? W ⟨b,off+0,none⟩ h00
  ·intro i n hi
   have hil:i<len:=by have:=(List.getElem?_eq_some_iff.1 hi).1;rwa [hlen] at this
   rw [List.getElem?_take_of_lt hil] at hi
   have:=hcell i (by omega)
   rw [hadd] at this
   rw [this]
   simp [List.getD,hi]
end
section
open Go.ChangeShapes Go.WideShapes Go.ChangeAt Go.RowKit Go.Deep
theorem starred_lifted (os:Os) (started:os.Started) (H:Type) (enc:TypeId×Value→H) :
  ReturnsInHanded {} Tryz.checked os 3 .any (Rows.starredSpec.pre6 enc Tryz.prog Tryz.f3 Rows.starredRow.domain false) (Rows.starredSpec.post enc Tryz.prog Tryz.f3 false true false false):=by
 refine returnsInHanded_of_change_sized (C:=Tryz.checked) Tryz.town started (by kernel_rfl) Tryz.func3
  (ChangeSpec.witness6 (enc:=enc) (C:=Tryz.checked) false ⟨#[],#[.slice none 0 0,.int .i64 0],[]⟩ 8 (by kernel_rfl) (by kernel_rfl) (by kernel_rfl) (by kernel_rfl)) ?_
 intro W base args ds gs before hval0 hW _ hsz0 _
 clear hsz0
 have hval:∀(j:Nat) t v,Tryz.f3.params[j]? = some t→args[j]? = some v→Value.okWide Tryz.prog W .any base t v:=hval0
 have hW':=hW
 obtain ⟨p,q,hA0,hV,rfl,hfz,_⟩:=hW
 have hA:DataW.TrodAll enc Tryz.prog W 0 (fun _=>true) true Tryz.f3.params.toList args.toList ds p:=hA0
 rw [Tryz.params3] at hA hval
 obtain ⟨v1,vs1,d1,ds1,p1,q1,hargs,rfl,rfl,h1,k1⟩:=trodAll_cons hA
 obtain ⟨v2,vs2,d2,ds2,p2,q2,rfl,rfl,rfl,h2,k2⟩:=trodAll_cons k1
 obtain ⟨rfl,rfl,rfl⟩:=trodAll_nil k2
 have hargs2:args=#[v1,v2]:=by cases args;simp_all
 subst hargs2
 obtain ⟨rfl,rfl⟩:=trodVars_none hV
 obtain ⟨a1,len1,cap1,rfl⟩:=okWide_slice Tryz.ts22 (hval 0 22 v1 rfl rfl)
 obtain ⟨n2,rfl,rfl,rfl,w2⟩:=open_int Tryz.ti3 (hval 1 3 v2 rfl rfl) h2
 clear hA0 hval0 hA hval
 obtain ⟨ns,e1,hp1,hn1,hm1⟩:=nums_open h1
 subst e1
 simp only [List.append_nil,List.nil_append] at hW' hfz
 have hlt:∀x∈p1,x.block<W.heap.size:=fun x hx=>hW'.lt x (by simpa using hx)
 refine (starred_any a1 cap1 ns n2 W hp1 hn1 hm1 (in64_wf w2)).mono fun e W' ⟨he,hk⟩ => ?_
 subst he
 have hb:Below W.heap.size W W':=hk.toBelow (Nat.le_refl _) (fun _ h=>False.elim h)
 exact ⟨_,rfl,⟨_,_,_,[],_,[],hW',trodAll_mk1 (shut_bool Tryz.tb4 true),
  trodAll_cons_mk (Below.trod Tryz.tlaid (by kernel_rfl) (of_decide_eq_true (by kernel_rfl)) h1 hb hlt) (trodAll_mk1 (shut_int Tryz.ti3 w2)),rfl,hb.frame _,fun h=>by cases h⟩⟩
theorem starred_holds:Rows.StarredSaid :=
 OpenClaim.holds_of_wide 3 Tryz.f3 rfl rfl rfl rfl rfl rfl rfl ⟨rfl,rfl,rfl,rfl,rfl⟩ rfl rfl rfl rfl rfl (by kernel_rfl) Tryz.func3 sf_closed
  (of_decide_eq_true (by kernel_rfl)) (by unfold Func.isWrapper;first|(rw [if_pos (by decide +kernel)];kernel_rfl)|(rw [if_neg (by decide +kernel)];exact ⟨rfl,rfl⟩))
  (fun os started H enc _=>starred_lifted os started H enc)
#print axioms starred_holds
end
end Go.Proofs.YtcboiapggnmpfabGreat
