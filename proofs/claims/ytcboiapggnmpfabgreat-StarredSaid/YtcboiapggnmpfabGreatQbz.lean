import Derived.Test.YtcboiapggnmpfabGreatQby
import Derived.Test.YtcboiapggnmpfabGreatQbx
namespace Go.Proofs.YtcboiapggnmpfabGreat
set_option maxRecDepth 100000
set_option maxHeartbeats 8000000
set_option linter.unusedSimpArgs false
set_option linter.unusedVariables false
open Go.RowKit
theorem Tryz.sizeS17:(Tryz.prog.info? 70).map (·.size)=some 17:=by kernel_rfl
theorem size_smallC:(Tryz.prog.info? 70).map (·.size)=some smallC.toArray.size:=by
 have e:smallC.toArray.size=17:=by simp [smallC]
 rw [e];exact Tryz.sizeS17
theorem smallC_one:∀u∈smallC,u.oneCell'=true:=by
 intro u hu
 simp only [smallC,List.mem_cons,List.not_mem_nil,or_false] at hu
 have:∃n:ByteArray,u=.string n:=by
  rcases hu with h|h|h|h|h|h|h|h|h|h|h|h|h|h|h|h|h <;> exact ⟨_,h⟩
 obtain ⟨n,rfl⟩:=this
 rfl
theorem smallK_any (c:Int) (w:World) (hc:In64 c):Calls Tryz.prog 10 #[.int .i64 c] w fun e w'=>∃s,e=.returned (.string s)∧StarT s∧Nw w w':=by
 have HP:Hid (∀W,Calls Tryz.prog 14 #[.int .i64 c,.int .i64 17] W fun e w'=>e=.returned (.int .i64 (pickK c 17))∧w'=W):=fun W=>pickK_any c 17 W hc (by omega) (by omega)
 obtain ⟨k,hk⟩:∃k:Nat,pickK c 17=k:=⟨(pickK c 17).toNat,by have:=pickK_lt (c:=c) (n:=17) (by omega);omega⟩
 have hk10:k<17:=by have:=pickK_lt (c:=c) (n:=17) (by omega);omega
 rw [hk] at HP
 obtain ⟨s,hs,hN⟩:=small_at k hk10
 have HN:Hid (StarT s):=hN
 have hB0:Bx (w.alloc (.cells #[.string ⟨#[]⟩,.string ⟨#[]⟩,.string ⟨#[]⟩,.string ⟨#[]⟩,.string ⟨#[]⟩,.string ⟨#[]⟩,.string ⟨#[]⟩,.string ⟨#[]⟩,.string ⟨#[]⟩,.string ⟨#[]⟩,.string ⟨#[]⟩,.string ⟨#[]⟩,.string ⟨#[]⟩,.string ⟨#[]⟩,.string ⟨#[]⟩,.string ⟨#[]⟩,.string ⟨#[]⟩] 70)) w.heap.size [.string ⟨#[]⟩,.string ⟨#[]⟩,.string ⟨#[]⟩,.string ⟨#[]⟩,.string ⟨#[]⟩,.string ⟨#[]⟩,.string ⟨#[]⟩,.string ⟨#[]⟩,.string ⟨#[]⟩,.string ⟨#[]⟩,.string ⟨#[]⟩,.string ⟨#[]⟩,.string ⟨#[]⟩,.string ⟨#[]⟩,.string ⟨#[]⟩,.string ⟨#[]⟩,.string ⟨#[]⟩]:=Bx.new w [.string ⟨#[]⟩,.string ⟨#[]⟩,.string ⟨#[]⟩,.string ⟨#[]⟩,.string ⟨#[]⟩,.string ⟨#[]⟩,.string ⟨#[]⟩,.string ⟨#[]⟩,.string ⟨#[]⟩,.string ⟨#[]⟩,.string ⟨#[]⟩,.string ⟨#[]⟩,.string ⟨#[]⟩,.string ⟨#[]⟩,.string ⟨#[]⟩,.string ⟨#[]⟩,.string ⟨#[]⟩] 70
 have hl0:([.string ⟨#[]⟩,.string ⟨#[]⟩,.string ⟨#[]⟩,.string ⟨#[]⟩,.string ⟨#[]⟩,.string ⟨#[]⟩,.string ⟨#[]⟩,.string ⟨#[]⟩,.string ⟨#[]⟩,.string ⟨#[]⟩,.string ⟨#[]⟩,.string ⟨#[]⟩,.string ⟨#[]⟩,.string ⟨#[]⟩,.string ⟨#[]⟩,.string ⟨#[]⟩,.string ⟨#[]⟩]:List Value).length=smallC.length:=rfl
 have HT0:Hid ((w.alloc (.cells #[.string ⟨#[]⟩,.string ⟨#[]⟩,.string ⟨#[]⟩,.string ⟨#[]⟩,.string ⟨#[]⟩,.string ⟨#[]⟩,.string ⟨#[]⟩,.string ⟨#[]⟩,.string ⟨#[]⟩,.string ⟨#[]⟩,.string ⟨#[]⟩,.string ⟨#[]⟩,.string ⟨#[]⟩,.string ⟨#[]⟩,.string ⟨#[]⟩,.string ⟨#[]⟩,.string ⟨#[]⟩] 70)).there w.heap.size 0 smallC.toArray.size):=hB0.there hl0
 have HB:Hid (Bx ((w.alloc (.cells #[.string ⟨#[]⟩,.string ⟨#[]⟩,.string ⟨#[]⟩,.string ⟨#[]⟩,.string ⟨#[]⟩,.string ⟨#[]⟩,.string ⟨#[]⟩,.string ⟨#[]⟩,.string ⟨#[]⟩,.string ⟨#[]⟩,.string ⟨#[]⟩,.string ⟨#[]⟩,.string ⟨#[]⟩,.string ⟨#[]⟩,.string ⟨#[]⟩,.string ⟨#[]⟩,.string ⟨#[]⟩] 70)).setCells w.heap.size 0 smallC.toArray.toList) w.heap.size smallC):=hB0.put hl0
 have HK:Hid (Nw w ((w.alloc (.cells #[.string ⟨#[]⟩,.string ⟨#[]⟩,.string ⟨#[]⟩,.string ⟨#[]⟩,.string ⟨#[]⟩,.string ⟨#[]⟩,.string ⟨#[]⟩,.string ⟨#[]⟩,.string ⟨#[]⟩,.string ⟨#[]⟩,.string ⟨#[]⟩,.string ⟨#[]⟩,.string ⟨#[]⟩,.string ⟨#[]⟩,.string ⟨#[]⟩,.string ⟨#[]⟩,.string ⟨#[]⟩] 70)).setCells w.heap.size 0 smallC.toArray.toList)):=((Kp.refl _ w).alloc _).trans' (kp_setCells _ 0 _) (by intro b hb h;omega)
 have hcell:=HB.out.cell hs
 have hki:(k:Int)<17:=by omega
 clear hk hs hN HB hB0 hl0
 go_enter Tryz.func10,Tryz.ntmps10
 go_wp2_with (first|(with_reducible (show Go.wpList _ _ _ ({ dst:=_,op:=Op.store 70 _ _,type:=_,pos:=_,after:=_,guard:=_ }::_) _ _);refine wpList_store_mid rfl 70 _ _ rfl w.heap.size 0 smallC.toArray rfl rfl HT0.out size_smallC (all_oneCell_toArray smallC_one) ?_;generalize (w.alloc (.cells #[.string ⟨#[]⟩,.string ⟨#[]⟩,.string ⟨#[]⟩,.string ⟨#[]⟩,.string ⟨#[]⟩,.string ⟨#[]⟩,.string ⟨#[]⟩,.string ⟨#[]⟩,.string ⟨#[]⟩,.string ⟨#[]⟩,.string ⟨#[]⟩,.string ⟨#[]⟩,.string ⟨#[]⟩,.string ⟨#[]⟩,.string ⟨#[]⟩,.string ⟨#[]⟩,.string ⟨#[]⟩] 70)).setCells w.heap.size 0 smallC.toArray.toList=W1 at *)|fail)
 refine (HP.out _).mono ?_
 rintro e1 w1 ⟨rfl,rfl⟩
 go_wp2
 go_ret
 exact ⟨s,rfl,HN.out,HK.out⟩
theorem evsR_get0 (l:List Evt):∀(i j:Nat) (x:Evt),l[i]? = some x→j<5→(evsR l)[i*5+j]? = (evC5 x)[j]?:=by
 induction l with
 | nil=>intro i j x h;simp at h
 | cons y r ih =>
  intro i j x h hj
  have e:evsR (y::r)=evC5 y++evsR r:=by simp [evsR]
  have hl:(evC5 y).length=5:=rfl
  rw [e]
  cases i with
  | zero=>simp at h;subst h;rw [List.getElem?_append_left (by omega)];simp
  | succ i =>
   simp at h
   rw [List.getElem?_append_right (by omega),hl]
   have:(i+1)*5+j - 5=i*5+j:=by omega
   rw [this];exact ih i j x h hj
theorem Eb.evs0 {W0 wr:World} {lp:Option Addr} {n c:Nat} {L:List Evt} (h:Eb W0 wr (.slice lp n c) L):EvsP wr lp L∧(∀g,lp=some ⟨g,0,none⟩→g<wr.heap.size):=by
 refine ⟨?_,?_⟩
 ·intro hne
  obtain ⟨g,c',e⟩:=owns_some h.own (List.length_pos_iff.2 hne)
  simp only [Value.slice.injEq] at e
  obtain ⟨rfl,rfl,rfl⟩:=e
  refine ⟨g,rfl,(h.own.lt g rfl).2,?_⟩
  intro i x hx j v hv
  have hj:j<5:=by have:=(List.getElem?_eq_some_iff.1 hv).1;simpa [evC5] using this
  exact owns_cell h.own (i*5+j) (by rw [evsR_get0 L i j x hx hj];exact hv)
 ·intro g e
  subst e
  exact (h.own.lt g rfl).2
theorem Mds.nw {w w':World} {B:Nat} {v:Value} {hs:List (Value×List Mt)} (h:Mds w B v hs) (k:Nw w w'):Mds w' B v hs:=h.kp k (fun _ _ _ h=>h)
theorem starred_any (p:Option Addr) (cap:Nat) (ns:List Int) (a:Int) (w:World) (hp:NumsP w p ns) (h64:∀n∈ns,In64 n) (hl:ns.length≤maxLen) (ha:In64 a) :
  Calls Tryz.prog 3 #[.slice p ns.length cap,.int .i64 a] w fun e w'=>e=.returned (.bool true)∧Nw w w':=by
 have HST:Hid (Calls Tryz.prog 9 #[.slice p ns.length cap,.int .i64 9] w fun e w'=>∃v,e=.returned v∧Eb w w' v (strTo ns (min ns.length 9)).1):=stream_any p cap 9 ns w hp h64 hl (by omega)
 have HL12:Hid ((strTo ns (min ns.length 9)).1.length≤9):=by show _≤_;rw [strTo_len ns _ (by omega)];omega
 have HLE:Hid (∀e∈(strTo ns (min ns.length 9)).1,EvOk e):=str_ok ns h64 _ (by omega)
 have HLG:Hid (GoesE (bI ⟨#[49,49,49]⟩) 0 (strTo ns (min ns.length 9)).1):=str_goes ns _ (by omega)
 generalize (strTo ns (min ns.length 9)).1=L at HST HL12 HLE HLG
 clear hp h64 hl
 go_enter Tryz.func3,Tryz.ntmps3
 go_wp2_with fail
 refine HST.out.mono ?_
 rintro e1 w1 ⟨lv,rfl,hE⟩
 obtain ⟨lp,lc,rfl⟩:=ownsLenX hE.own
 obtain ⟨hev,hge⟩:=hE.evs0
 have HE1:Hid (∀W,Nw w1 W→EvsP W lp L):=fun W kW=>hev.kp kW (fun _ _ h=>h)
 have HGE1:Hid (∀W,Nw w1 W→∀g,lp=some ⟨g,0,none⟩→g<W.heap.size):=fun W kW g e=>Nat.lt_of_lt_of_le (hge g e) kW.size
 have K1:Hid (Nw w w1):=hE.nw
 clear hE hev hge HST
 go_wp2_with fail
 refine (smallK_any a w1 ha).mono ?_
 rintro e3 w2 ⟨s,rfl,hS,k2⟩
 have K2:Hid (Nw w1 w2):=k2
 obtain ⟨c0,c1,c2,hS⟩:=hS
 obtain ⟨q0,q1,q2,o1,o2,oo⟩:=hS L HLG.out HL12.out
 have HLn:L.length≤1000:=by have:=HL12.out;omega
 have hsz:s.size≤1000:=by
  have:=q0.z
  rw [ByteArray.size_append,ByteArray.size_append] at this
  omega
 have hz1:¬9223372036854775807<1+s.size:=by omega
 have hz2:¬9223372036854775807<1+s.size+2:=by omega
 have hz3:¬9223372036854775807<1+s.size+5:=by omega
 clear hsz
 have HF0:Hid (∀W,Nw w1 W→Calls Tryz.prog 11 #[.string (⟨#[40]⟩++s++⟨#[41,42]⟩),.slice lp L.length lc] W fun e w'=>∃v hs,e=.returned (.tuple #[v,.bool true])∧Mds w' W.heap.size v hs∧hs.map (·.2)=outS (bI ⟨#[49,49,49]⟩) c0 (beginsS c0) 200 200 ⟨[],0,0,false⟩ L∧Nw W w'):=fun W kW=>found_any _ _ lp lc L W q0 (HE1.out W kW) (HGE1.out W kW) HLn HLE.out
 have HF1:Hid (∀W,Nw w1 W→Calls Tryz.prog 11 #[.string (⟨#[40]⟩++s++⟨#[41,43]⟩),.slice lp L.length lc] W fun e w'=>∃v hs,e=.returned (.tuple #[v,.bool true])∧Mds w' W.heap.size v hs∧hs.map (·.2)=outS (bI ⟨#[49,49,49]⟩) c0 (beginsS c0) 200 200 ⟨[],0,0,false⟩ L∧Nw W w'):=fun W kW=>by
  have:=found_any _ _ lp lc L W q1 (HE1.out W kW) (HGE1.out W kW) HLn HLE.out
  rw [o1] at this;exact this
 have HF2:Hid (∀W,Nw w1 W→Calls Tryz.prog 11 #[.string (⟨#[40]⟩++s++⟨#[41,123,48,57,125]⟩),.slice lp L.length lc] W fun e w'=>∃v hs,e=.returned (.tuple #[v,.bool true])∧Mds w' W.heap.size v hs∧hs.map (·.2)=outS (bI ⟨#[49,49,49]⟩) c0 (beginsS c0) 200 200 ⟨[],0,0,false⟩ L∧Nw W w'):=fun W kW=>by
  have:=found_any _ _ lp lc L W q2 (HE1.out W kW) (HGE1.out W kW) HLn HLE.out
  rw [o2] at this;exact this
 have HAW:Hid (∀W,Nw w1 W→Calls Tryz.prog 12 #[.slice lp L.length lc] W fun e w'=>e=.returned (.bool true)∧Nw W w'):=fun W kW=>awake_any lp lc L W (HE1.out W kW) (HGE1.out W kW) HLn HLE.out HLG.out
 have HOO:Hid (∀l∈outS (bI ⟨#[49,49,49]⟩) c0 (beginsS c0) 200 200 ⟨[],0,0,false⟩ L,l.length≤1000∧∀m∈l,MtOk m):=oo
 have HLO:Hid ((outS (bI ⟨#[49,49,49]⟩) c0 (beginsS c0) 200 200 ⟨[],0,0,false⟩ L).length=L.length):=outS_len _ _ _ _ _ _ _
 clear hS q0 q1 q2 o1 o2 oo k2 HE1 HGE1
 generalize outS (bI ⟨#[49,49,49]⟩) c0 (beginsS c0) 200 200 ⟨[],0,0,false⟩ L=O at HF0 HF1 HF2 HOO HLO
 have HLN2:Hid (L.length≤1000):=HLn
 clear HLn
 go_wp2_with fail
 refine (HF0.out _ K2.out).mono ?_
 rintro e4 w3 ⟨v0,hs0,rfl,hm0,ho0,k3⟩
 obtain ⟨vp0,vc0,rfl⟩:=ownsLenX hm0.row
 have M0:Hid (Mds w3 w2.heap.size (.slice vp0 hs0.length vc0) hs0):=hm0
 have HO0:Hid (hs0.map (·.2)=O):=ho0
 have K3:Hid (Nw w1 w3):=K2.out.trans k3
 clear hm0 ho0 k3 HF0
 go_wp2_with fail
 refine (HF1.out _ K3.out).mono ?_
 rintro e5 w4 ⟨v1,hs1,rfl,hm1,ho1,k4⟩
 have hn1:hs1.length=hs0.length:=by have h1:=congrArg List.length ho1;have h2:=congrArg List.length HO0.out;simp at h1 h2;omega
 obtain ⟨vp1,vc1,rfl⟩:=ownsLenX hm1.row
 have M1:Hid (Mds w4 w3.heap.size (.slice vp1 hs0.length vc1) hs1):=by rw [hn1] at hm1;exact hm1
 rw [hn1]
 have HO1:Hid (hs1.map (·.2)=O):=ho1
 have K4:Hid (Nw w1 w4):=K3.out.trans k4
 have K34:Hid (Nw w3 w4):=k4
 clear hm1 ho1 k4 HF1 hn1
 go_wp2_with fail
 refine (HF2.out _ K4.out).mono ?_
 rintro e6 w5 ⟨v2,hs2,rfl,hm2,ho2,k5⟩
 have hn2:hs2.length=hs0.length:=by have h1:=congrArg List.length ho2;have h2:=congrArg List.length HO0.out;simp at h1 h2;omega
 obtain ⟨vp2,vc2,rfl⟩:=ownsLenX hm2.row
 have M2:Hid (Mds w5 w4.heap.size (.slice vp2 hs0.length vc2) hs2):=by rw [hn2] at hm2;exact hm2
 rw [hn2]
 have HO2:Hid (hs2.map (·.2)=O):=ho2
 have K5:Hid (Nw w1 w5):=K4.out.trans k5
 have K45:Hid (Nw w4 w5):=k5
 clear hm2 ho2 k5 HF2 hn2
 go_wp2_with fail
 refine (HAW.out _ K5.out).mono ?_
 rintro e7 w6 ⟨rfl,k6⟩
 have K6:Hid (Nw w1 w6):=K5.out.trans k6
 have HH:Hid (hs0.length≤1000):=by show _≤_;have h2:=congrArg List.length HO0.out;simp at h2;rw [h2,HLO.out];exact HLN2.out
 have HX:Hid (∀x∈hs0,x.2.length≤1000∧∀m∈x.2,MtOk m):=by
  intro x hx
  exact HOO.out _ (by rw [←HO0.out];exact List.mem_map.2 ⟨x,hx,rfl⟩)
 have HS1:Hid (∀W,Nw w5 W→Calls Tryz.prog 13 #[.slice vp0 hs0.length vc0,.slice vp1 hs0.length vc1] W fun e w'=>e=.returned (.bool true)∧Nw W w'):=fun W kW=>sameAll_same vp0 vp1 vc0 vc1 _ _ hs0 hs1 W (M0.out.nw ((K34.out.trans K45.out).trans kW)) (M1.out.nw (K45.out.trans kW)) (by rw [HO0.out,HO1.out]) HH.out HX.out
 have HS2:Hid (∀W,Nw w5 W→Calls Tryz.prog 13 #[.slice vp0 hs0.length vc0,.slice vp2 hs0.length vc2] W fun e w'=>e=.returned (.bool true)∧Nw W w'):=fun W kW=>sameAll_same vp0 vp2 vc0 vc2 _ _ hs0 hs2 W (M0.out.nw ((K34.out.trans K45.out).trans kW)) (M2.out.nw kW) (by rw [HO0.out,HO2.out]) HH.out HX.out
 have K56:Hid (Nw w5 w6):=k6
 clear k6 HAW
 go_wp2_with fail
 refine (HS1.out _ K56.out).mono ?_
 rintro e8 w7 ⟨rfl,k7⟩
 have K57:Hid (Nw w5 w7):=K56.out.trans k7
 clear k7 HS1
 go_wp2_with fail
 refine (HS2.out _ K57.out).mono ?_
 rintro e9 w8 ⟨rfl,k8⟩
 have K8:Hid (Nw w w8):=K1.out.trans (K5.out.trans (K57.out.trans k8))
 clear k8 HS2
 go_wp2
 go_ret
 exact ⟨rfl,K8.out⟩
open Value (slice)
def RunA (w:World) (X:Nat) (sc:List Int) (live found:Int) (l:List In) (P:Nat→Prop) (r:Rst):Prop :=
 ∃g cap bv,RunK w X sc live found g cap l bv (beginsS l) r∧RunC sc live found l (beginsS l)∧P X∧P g∧(∀b,bv.ownBlock=some b→P b)∧(∀v b,w.cell? ⟨X,9,none⟩=some v→v.ownBlock=some b→P b)
def FedA (w:World) (X:Nat) (sc:List Int) (live found:Int) (l:List In) (P:Nat→Prop) (p:Rst×List Mt×Int) (e:Ending) (w':World):Prop :=
 ∃mp mc,e=.returned (.tuple #[.slice mp p.2.1.length mc,.int .i64 p.2.2])∧w'.ownsRow w.heap.size 36 6 (.slice mp p.2.1.length mc) p.2.1.length (mtsC p.2.1)∧RunA w' X sc live found l P p.1∧Kp (fun b=>b=X) w w'∧(¬p.2.2=0→slice mp p.2.1.length mc=.slice none 0 0)
theorem feedA_any {w:World} {X:Nat} {sc:List Int} {live found:Int} {l:List In} {P:Nat→Prop} {r:Rst} (h:RunA w X sc live found l P r) (hP:∀b,w.heap.size≤b→P b) {e:Evt} (he:EvOk e) (hct:r.count≤1000000) :
  Calls Tryz.prog 21 #[.pointer (some ⟨X,0,none⟩),.agg #[.int .i64 e.at',.int .i64 e.kind,.int .i64 e.x,.int .i64 e.y,.int .i64 e.z]] w (FedA w X sc live found l P (feedS sc l (beginsS l) live found r e)):=by
 obtain ⟨g,cap,bv,hk,hc,p1,p2,p3,p4⟩:=h
 refine (feedX_any X sc live found g cap l bv (beginsS l) r e w hc hk he hct).mono ?_
 rintro e3 w3 ⟨v,rfl,hO,hk3,kk,hnl,hlw⟩
 obtain ⟨mp,mc,rfl⟩:=ownsLenX hO
 refine ⟨mp,mc,rfl,hO,⟨g,cap,bv,hk3,hc,p1,p2,p3,?_⟩,kk,hnl⟩
 intro v b hv hb
 rcases hlw v b hv hb with h|h
 ·exact hP b h
 ·exact p4 v b h hb
structure NamK (s:ByteArray) (code:List In):Prop where
 p:ProgIs ⟨#[49,49,49]⟩ s code
 z:s.size≤1000
 f:freeB code (beginsS code) 12=true
def namesC:List Value:=[.string ⟨#[97,65,32,98,91,120,62,65,120,93]⟩,.string ⟨#[97,65,46,42,98,91,120,62,65,120,93]⟩,.string ⟨#[97,65,46,42,98,66,91,120,62,65,120,93,46,42,99,91,120,60,66,120,93]⟩,.string ⟨#[40,97,65,124,97,66,41,98,42,99]⟩,.string ⟨#[40,97,65,32,98,124,98,66,32,97,41,99,67]⟩,.string ⟨#[97,65,40,98,91,120,61,65,120,93,124,99,91,120,35,65,120,93,41,43]⟩,.string ⟨#[97,65,91,120,62,49,93,98,123,48,50,125,99,66,91,116,60,65,116,43,57,93]⟩,.string ⟨#[40,97,65,124,97,65,46,41,98,66,91,120,60,65,120,42,50,93,64,50,48]⟩,.string ⟨#[99,65,46,123,48,51,125,99,66,91,120,61,65,120,45,49,93]⟩,.string ⟨#[97,65,46,42,97,66,91,120,62,65,120,93,64,49,50]⟩]
theorem names_at:∀k,k<10→∃s code,namesC[k]? = some (.string s)∧NamK s code:=by
 intro k hk
 rcases (show k=0∨k=1∨k=2∨k=3∨k=4∨k=5∨k=6∨k=7∨k=8∨k=9 by omega) with rfl|rfl|rfl|rfl|rfl|rfl|rfl|rfl|rfl|rfl
 ·exact ⟨_,ncode0,rfl,nprog0,by decide,nfree0⟩
 ·exact ⟨_,ncode1,rfl,nprog1,by decide,nfree1⟩
 ·exact ⟨_,ncode2,rfl,nprog2,by decide,nfree2⟩
 ·exact ⟨_,ncode3,rfl,nprog3,by decide,nfree3⟩
 ·exact ⟨_,ncode4,rfl,nprog4,by decide,nfree4⟩
 ·exact ⟨_,ncode5,rfl,nprog5,by decide,nfree5⟩
 ·exact ⟨_,ncode6,rfl,nprog6,by decide,nfree6⟩
 ·exact ⟨_,ncode7,rfl,nprog7,by decide,nfree7⟩
 ·exact ⟨_,ncode8,rfl,nprog8,by decide,nfree8⟩
 ·exact ⟨_,ncode9,rfl,nprog9,by decide,nfree9⟩
theorem namedK_any (c:Int) (w:World) (hc:In64 c):Calls Tryz.prog 15 #[.int .i64 c] w fun e w'=>∃s code,e=.returned (.string s)∧NamK s code∧Nw w w':=by
 have HP:Hid (∀W,Calls Tryz.prog 14 #[.int .i64 c,.int .i64 10] W fun e w'=>e=.returned (.int .i64 (pickK c 10))∧w'=W):=fun W=>pickK_any c 10 W hc (by omega) (by omega)
 obtain ⟨k,hk⟩:∃k:Nat,pickK c 10=k:=⟨(pickK c 10).toNat,by have:=pickK_lt (c:=c) (n:=10) (by omega);omega⟩
 have hk10:k<10:=by have:=pickK_lt (c:=c) (n:=10) (by omega);omega
 rw [hk] at HP
 obtain ⟨s,code,hs,hN⟩:=names_at k hk10
 have HN:Hid (NamK s code):=hN
 have HB:Hid (Bx (w.alloc (.cells namesC.toArray 72)) w.heap.size namesC):=Bx.new w namesC _
 have hcell:=HB.out.cell hs
 unfold namesC at hcell
 have HK:Hid (∀o,Nw w (w.alloc o)):=fun o=>(Kp.refl _ _).alloc _
 have hki:(k:Int)<10:=by omega
 clear hk hs hN HB
 go_enter Tryz.func15,Tryz.ntmps15
 go_wp2_with fail
 refine (HP.out _).mono ?_
 rintro e1 w1 ⟨rfl,rfl⟩
 go_wp2
 go_ret
 exact ⟨s,code,rfl,HN.out,HK.out _⟩
def SpoiltOk:Prop:=∀(c now:Int) (w:World),In64 c→0≤now→now≤100000→Calls Tryz.prog 20 #[.int .i64 c,.int .i64 now] w fun r w'=>∃e:Evt,r=.returned (.agg #[.int .i64 e.at',.int .i64 e.kind,.int .i64 e.x,.int .i64 e.y,.int .i64 e.z])∧EvOk e∧(e.at'<now∨goodE (bI ⟨#[49,49,49]⟩) e=false)∧Nw w w'
section
section
variable {l:List In} {hand:Nmb} {t:Thr}
theorem goF_tn (hn:l.length≤1000) (hh:In64 hand.n∧EvOk hand.e) (ht:TOk t) (hA:AllIns l):∀(m:Nat) (s:Tn),TnOk l.length s→TnOk l.length (goF l hand t m s):=by
 intro m
 induction m with
 | zero=>intro s h;exact h
 | succ m ih =>
  intro s h
  unfold goF
  split
  ·exact h
  ·split
   ·exact h
   ·rename_i p hp
    split
    ·exact h
    ·rename_i x hx
     obtain ⟨⟨a,ha,hal⟩,hw⟩:=h.o p (List.mem_of_getLast? hp)
     have hb:TnOk l.length { s with opn:=s.opn.dropLast }:=⟨h.w,h.e,h.v,fun u hu=>h.o u (List.dropLast_subset _ hu)⟩
     have hx':l[a]? = some x:=by rw [ha] at hx;simpa using hx
     rw [ha]
     exact ih _ (lvS_ok rfl hn hb hh ht hA hx' hw).1
theorem goOn_cr (hn:l.length≤1000) (hh:In64 hand.n∧EvOk hand.e) (ht:TOk t) (hA:AllIns l) {c:Crw×Crw} (h1:CrOk c.1) (h2:CrOk c.2):CrOk (goOnS l hand c t).1∧CrOk (goOnS l hand c t).2:=by
 unfold goOnS
 split
 ·exact ⟨h1,h2⟩
 ·rename_i x hx
  split
  ·have s0:TnOk l.length ⟨List.replicate (16*l.length) false,[],c.1,c.2⟩:=⟨h1,h2,by simp,fun p hp=>by simp at hp⟩
   have e1:t.at'+1=((t.at'.toNat+1:Nat):Int):=by have:=ht.a;omega
   have s1:=rchS_ok s0 (t.at'.toNat+1) 0 (by omega)
   rw [e1]
   have s2:=goF_tn hn hh ht hA (1+16*l.length) _ s1
   exact ⟨s2.w,s2.e⟩
  ·exact ⟨h1,h2⟩
end
theorem fold_cr {l:List In} {hand:Nmb} (hn:l.length≤1000) (hh:In64 hand.n∧EvOk hand.e) (hA:AllIns l):∀(ts:List Thr) (c:Crw×Crw),(∀t∈ts,TOk t)→CrOk c.1→CrOk c.2→CrOk (ts.foldl (goOnS l hand) c).1∧CrOk (ts.foldl (goOnS l hand) c).2:=by
 intro ts
 induction ts with
 | nil=>intro c _ h1 h2;exact ⟨h1,h2⟩
 | cons t ts ih =>
  intro c ht h1 h2
  obtain ⟨a,b⟩:=goOn_cr hn hh (ht t (by simp)) hA h1 h2
  exact ih _ (fun u hu=>ht u (by simp [hu])) a b
theorem mt_of {t:Thr} (h:TOk t) {n:Int} (hn:In64 n):MtOk (matchT t n) :=
 ⟨h.k.f,hn,(h.k.h 0).1,(h.k.h 1).1,(h.k.h 2).1,(h.k.h 3).1⟩
theorem feed_mts {sc:List Int} {l:List In} {bs:List Nat} {live found:Int} (hc:RunC sc live found l bs) {r:Rst} (hw:∀u∈r.ws,TOk u) {e:Evt} (he:EvOk e) (hct:r.count≤1000000):∀m∈(feedS sc l bs live found r e).2.1,MtOk m:=by
 intro m hm
 unfold feedS at hm
 split at hm
 ·simp at hm
 ·split at hm
  ·simp at hm
  ·rename_i h2
   split at hm
   ·simp at hm
   ·simp only [List.mem_map] at hm
    obtain ⟨t,ht,rfl⟩:=hm
    have hg:goodE sc e=true:=by
     simp only [not_or,Bool.not_eq_false] at h2
     exact h2.2
    have htm:TimeOk e.at':=by
     unfold goodE at hg
     simp only [Bool.and_eq_true,decide_eq_true_eq] at hg
     unfold TimeOk
     omega
    have hh:In64 (r.count:Int)∧EvOk e:=⟨by unfold In64;omega,he⟩
    have c0:∀n:Int,n≤10000→CrOk ⟨[],n,false⟩:=fun n hn=>⟨hn,by simp,fun u hu=>by simp at hu⟩
    obtain ⟨f1,f2⟩:=fold_cr (hand:=⟨r.count,e⟩) hc.n hh hc.a r.ws (⟨[],live,false⟩,⟨[],found,false⟩) hw (c0 _ hc.lv) (c0 _ hc.fd)
    obtain ⟨g1,g2⟩:=fold_cr (hand:=⟨r.count,e⟩) hc.n hh hc.a (bs.map (fun b:Nat=>newT (b:Int) ⟨r.count,e⟩)) _ (fun u hu=>by
     obtain ⟨b,hb,rfl⟩:=List.mem_map.1 hu
     exact newT_ok hh htm (by have:=hc.bl b hb;have:=hc.n;omega)) f1 f2
    exact mt_of (g2.t t ht) (by unfold In64;omega)
theorem feed_len {sc:List Int} {l:List In} {bs:List Nat} {live found:Int} (hc:RunC sc live found l bs) {r:Rst} (hw:∀u∈r.ws,TOk u) {e:Evt} (he:EvOk e) (hct:r.count≤1000000):(feedS sc l bs live found r e).2.1.length≤10000:=by
 unfold feedS
 split
 ·simp
 ·split
  ·simp
  ·rename_i h2
   split
   ·simp
   ·simp only [List.length_map]
    have hg:goodE sc e=true:=by
     simp only [not_or,Bool.not_eq_false] at h2
     exact h2.2
    have htm:TimeOk e.at':=by
     unfold goodE at hg
     simp only [Bool.and_eq_true,decide_eq_true_eq] at hg
     unfold TimeOk
     omega
    have hh:In64 (r.count:Int)∧EvOk e:=⟨by unfold In64;omega,he⟩
    have c0:∀n:Int,n≤10000→CrOk ⟨[],n,false⟩:=fun n hn=>⟨hn,by simp,fun u hu=>by simp at hu⟩
    obtain ⟨f1,f2⟩:=fold_cr (hand:=⟨r.count,e⟩) hc.n hh hc.a r.ws (⟨[],live,false⟩,⟨[],found,false⟩) hw (c0 _ hc.lv) (c0 _ hc.fd)
    obtain ⟨g1,g2⟩:=fold_cr (hand:=⟨r.count,e⟩) hc.n hh hc.a (bs.map (fun b:Nat=>newT (b:Int) ⟨r.count,e⟩)) _ (fun u hu=>by
     obtain ⟨b,hb,rfl⟩:=List.mem_map.1 hu
     exact newT_ok hh htm (by have:=hc.bl b hb;have:=hc.n;omega)) f1 f2
    exact g2.n
theorem feed_state {sc:List Int} {l:List In} {bs:List Nat} {live found:Int} {r:Rst} {e:Evt} (h:(feedS sc l bs live found r e).2.2=0):(feedS sc l bs live found r e).1.spent=r.spent∧(feedS sc l bs live found r e).1.last=e.at'∧r.spent=false:=by
 unfold feedS at h ⊢
 split
 ·rename_i c;rw [if_pos c] at h;simp at h
 ·rename_i c1
  rw [if_neg c1] at h
  split
  ·rename_i c;rw [if_pos c] at h;simp at h
  ·rename_i c2
   rw [if_neg c2] at h
   split
   ·rename_i c;rw [if_pos c] at h;simp at h
   ·exact ⟨rfl,rfl,by simpa using c1⟩
theorem run_state {sc:List Int} {l:List In} {bs:List Nat} {live found:Int} {r:Rst} (hsp:r.spent=false) {L:List Evt} (h:∀i e,L[i]? = some e→(feedS sc l bs live found (runS sc l bs live found r (L.take i)) e).2.2=0):∀i,i≤L.length→(runS sc l bs live found r (L.take i)).spent=false∧(runS sc l bs live found r (L.take i)).last=(L.take i).foldl (fun _ x=>x.at') r.last:=by
 intro i
 induction i with
 | zero=>intro _;simp [runS,hsp]
 | succ i ih =>
  intro hi
  have hx:L[i]? = some (L[i]'(by omega)):=List.getElem?_eq_getElem (by omega)
  have e1:L.take (i+1)=L.take i++[L[i]'(by omega)]:=by rw [List.take_add_one,hx];rfl
  obtain ⟨s1,s2,s3⟩:=feed_state (h i _ hx)
  rw [e1,runS_snoc,s1,s2,List.foldl_append]
  exact ⟨s3,rfl⟩
theorem feed_bad {sc:List Int} {l:List In} {bs:List Nat} {live found:Int} {r:Rst} (hsp:r.spent=false) {e:Evt} (hb:e.at'<r.last∨goodE sc e=false):feedS sc l bs live found r e=(r,[],10):=by
 unfold feedS
 rw [if_neg (by simp [hsp]),if_pos hb]
end
end Go.Proofs.YtcboiapggnmpfabGreat
