import Derived.Test.YtcboiapggnmpfaaGreatQbz
import Derived.Test.YtcboiapggnmpfaaGreatQca
import Derived.Test.YtcboiapggnmpfaaGreatQaf
import Derived.Deep.MidRow
import Derived.ProofKit
import Derived.ChangeSlices
import Derived.SizedLaws
import Derived.Deep.Slices
import Derived.OpenShut
namespace Go.Proofs.YtcboiapggnmpfaaGreat
set_option maxRecDepth 100000
set_option maxHeartbeats 8000000
set_option linter.unusedSimpArgs false
set_option linter.unusedVariables false
open Go.RowKit
theorem Tryz.sizeS20:(Tryz.prog.info? 120).map (·.size)=some 20:=by kernel_rfl
theorem size_pieceC:(Tryz.prog.info? 120).map (·.size)=some pieceC.toArray.size:=by
 have e:pieceC.toArray.size=20:=by simp [pieceC]
 rw [e];exact Tryz.sizeS20
theorem pieceC_one:∀u∈pieceC,u.oneCell'=true:=by
 intro u hu
 simp only [pieceC,List.mem_cons,List.not_mem_nil,or_false] at hu
 have:∃n:ByteArray,u=.string n:=by
  rcases hu with h|h|h|h|h|h|h|h|h|h|h|h|h|h|h|h|h|h|h|h <;> exact ⟨_,h⟩
 obtain ⟨n,rfl⟩:=this
 rfl
theorem pieceK_any (c:Int) (w:World) (hc:In64 c):Calls Tryz.prog 29 #[.int .i64 c] w fun e w'=>∃s,e=.returned (.string s)∧(s∈pieceL∧∀t∈pieceL,ChoT s t)∧Nw w w':=by
 have HP:Hid (∀W,Calls Tryz.prog 17 #[.int .i64 c,.int .i64 20] W fun e w'=>e=.returned (.int .i64 (pickK c 20))∧w'=W):=fun W=>pickK_any c 20 W hc (by omega) (by omega)
 obtain ⟨k,hk⟩:∃k:Nat,pickK c 20=k:=⟨(pickK c 20).toNat,by have:=pickK_lt (c:=c) (n:=20) (by omega);omega⟩
 have hk10:k<20:=by have:=pickK_lt (c:=c) (n:=20) (by omega);omega
 rw [hk] at HP
 obtain ⟨s,hs,hN⟩:=piece_at k hk10
 have HN:Hid (s∈pieceL∧∀t∈pieceL,ChoT s t):=hN
 have hB0:Bx (w.alloc (.cells #[.string ⟨#[]⟩,.string ⟨#[]⟩,.string ⟨#[]⟩,.string ⟨#[]⟩,.string ⟨#[]⟩,.string ⟨#[]⟩,.string ⟨#[]⟩,.string ⟨#[]⟩,.string ⟨#[]⟩,.string ⟨#[]⟩,.string ⟨#[]⟩,.string ⟨#[]⟩,.string ⟨#[]⟩,.string ⟨#[]⟩,.string ⟨#[]⟩,.string ⟨#[]⟩,.string ⟨#[]⟩,.string ⟨#[]⟩,.string ⟨#[]⟩,.string ⟨#[]⟩] 120)) w.heap.size [.string ⟨#[]⟩,.string ⟨#[]⟩,.string ⟨#[]⟩,.string ⟨#[]⟩,.string ⟨#[]⟩,.string ⟨#[]⟩,.string ⟨#[]⟩,.string ⟨#[]⟩,.string ⟨#[]⟩,.string ⟨#[]⟩,.string ⟨#[]⟩,.string ⟨#[]⟩,.string ⟨#[]⟩,.string ⟨#[]⟩,.string ⟨#[]⟩,.string ⟨#[]⟩,.string ⟨#[]⟩,.string ⟨#[]⟩,.string ⟨#[]⟩,.string ⟨#[]⟩]:=Bx.new w [.string ⟨#[]⟩,.string ⟨#[]⟩,.string ⟨#[]⟩,.string ⟨#[]⟩,.string ⟨#[]⟩,.string ⟨#[]⟩,.string ⟨#[]⟩,.string ⟨#[]⟩,.string ⟨#[]⟩,.string ⟨#[]⟩,.string ⟨#[]⟩,.string ⟨#[]⟩,.string ⟨#[]⟩,.string ⟨#[]⟩,.string ⟨#[]⟩,.string ⟨#[]⟩,.string ⟨#[]⟩,.string ⟨#[]⟩,.string ⟨#[]⟩,.string ⟨#[]⟩] 120
 have hl0:([.string ⟨#[]⟩,.string ⟨#[]⟩,.string ⟨#[]⟩,.string ⟨#[]⟩,.string ⟨#[]⟩,.string ⟨#[]⟩,.string ⟨#[]⟩,.string ⟨#[]⟩,.string ⟨#[]⟩,.string ⟨#[]⟩,.string ⟨#[]⟩,.string ⟨#[]⟩,.string ⟨#[]⟩,.string ⟨#[]⟩,.string ⟨#[]⟩,.string ⟨#[]⟩,.string ⟨#[]⟩,.string ⟨#[]⟩,.string ⟨#[]⟩,.string ⟨#[]⟩]:List Value).length=pieceC.length:=rfl
 have HT0:Hid ((w.alloc (.cells #[.string ⟨#[]⟩,.string ⟨#[]⟩,.string ⟨#[]⟩,.string ⟨#[]⟩,.string ⟨#[]⟩,.string ⟨#[]⟩,.string ⟨#[]⟩,.string ⟨#[]⟩,.string ⟨#[]⟩,.string ⟨#[]⟩,.string ⟨#[]⟩,.string ⟨#[]⟩,.string ⟨#[]⟩,.string ⟨#[]⟩,.string ⟨#[]⟩,.string ⟨#[]⟩,.string ⟨#[]⟩,.string ⟨#[]⟩,.string ⟨#[]⟩,.string ⟨#[]⟩] 120)).there w.heap.size 0 pieceC.toArray.size):=hB0.there hl0
 have HB:Hid (Bx ((w.alloc (.cells #[.string ⟨#[]⟩,.string ⟨#[]⟩,.string ⟨#[]⟩,.string ⟨#[]⟩,.string ⟨#[]⟩,.string ⟨#[]⟩,.string ⟨#[]⟩,.string ⟨#[]⟩,.string ⟨#[]⟩,.string ⟨#[]⟩,.string ⟨#[]⟩,.string ⟨#[]⟩,.string ⟨#[]⟩,.string ⟨#[]⟩,.string ⟨#[]⟩,.string ⟨#[]⟩,.string ⟨#[]⟩,.string ⟨#[]⟩,.string ⟨#[]⟩,.string ⟨#[]⟩] 120)).setCells w.heap.size 0 pieceC.toArray.toList) w.heap.size pieceC):=hB0.put hl0
 have HK:Hid (Nw w ((w.alloc (.cells #[.string ⟨#[]⟩,.string ⟨#[]⟩,.string ⟨#[]⟩,.string ⟨#[]⟩,.string ⟨#[]⟩,.string ⟨#[]⟩,.string ⟨#[]⟩,.string ⟨#[]⟩,.string ⟨#[]⟩,.string ⟨#[]⟩,.string ⟨#[]⟩,.string ⟨#[]⟩,.string ⟨#[]⟩,.string ⟨#[]⟩,.string ⟨#[]⟩,.string ⟨#[]⟩,.string ⟨#[]⟩,.string ⟨#[]⟩,.string ⟨#[]⟩,.string ⟨#[]⟩] 120)).setCells w.heap.size 0 pieceC.toArray.toList)):=((Kp.refl _ w).alloc _).trans' (kp_setCells _ 0 _) (by intro b hb h;omega)
 have hcell:=HB.out.cell hs
 have hki:(k:Int)<20:=by omega
 clear hk hs hN HB hB0 hl0
 go_enter Tryz.func29,Tryz.ntmps29
 go_wp2_with (first|(with_reducible (show Go.wpList _ _ _ ({ dst:=_,op:=Op.store 120 _ _,type:=_,pos:=_,after:=_,guard:=_ }::_) _ _);refine wpList_store_mid rfl 120 _ _ rfl w.heap.size 0 pieceC.toArray rfl rfl HT0.out size_pieceC (all_oneCell_toArray pieceC_one) ?_;generalize (w.alloc (.cells #[.string ⟨#[]⟩,.string ⟨#[]⟩,.string ⟨#[]⟩,.string ⟨#[]⟩,.string ⟨#[]⟩,.string ⟨#[]⟩,.string ⟨#[]⟩,.string ⟨#[]⟩,.string ⟨#[]⟩,.string ⟨#[]⟩,.string ⟨#[]⟩,.string ⟨#[]⟩,.string ⟨#[]⟩,.string ⟨#[]⟩,.string ⟨#[]⟩,.string ⟨#[]⟩,.string ⟨#[]⟩,.string ⟨#[]⟩,.string ⟨#[]⟩,.string ⟨#[]⟩] 120)).setCells w.heap.size 0 pieceC.toArray.toList=W1 at *)|fail)
 refine (HP.out _).mono ?_
 rintro e1 w1 ⟨rfl,rfl⟩
 go_wp2
 go_ret
 exact ⟨s,rfl,HN.out,HK.out⟩
theorem evsR_get1 (l:List Evt):∀(i j:Nat) (x:Evt),l[i]? = some x→j<5→(evsR l)[i*5+j]? = (evC5 x)[j]?:=by
 induction l with
 | nil=>intro i j x h;simp at h
 | cons y r ih =>
  intro i j x h hj
  have e:evsR (y::r)=evC5 y++evsR r:=by simp [evsR]
  have hl:(evC5 y).length=5:=rfl
  rw [e]
  cases i with
  | zero=>simp at h;subst h;rw [List.getElem?_append_left (by omega)];simp
  | succ i =>
   simp at h
   rw [List.getElem?_append_right (by omega),hl]
   have:(i+1)*5+j - 5=i*5+j:=by omega
   rw [this];exact ih i j x h hj
theorem Eb.evs1 {W0 wr:World} {lp:Option Addr} {n c:Nat} {L:List Evt} (h:Eb W0 wr (.slice lp n c) L):EvsP wr lp L∧(∀g,lp=some ⟨g,0,none⟩→g<wr.heap.size):=by
 refine ⟨?_,?_⟩
 ·intro hne
  obtain ⟨g,c',e⟩:=owns_some h.own (List.length_pos_iff.2 hne)
  simp only [Value.slice.injEq] at e
  obtain ⟨rfl,rfl,rfl⟩:=e
  refine ⟨g,rfl,(h.own.lt g rfl).2,?_⟩
  intro i x hx j v hv
  have hj:j<5:=by have:=(List.getElem?_eq_some_iff.1 hv).1;simpa [evC5] using this
  exact owns_cell h.own (i*5+j) (by rw [evsR_get1 L i j x hx hj];exact hv)
 ·intro g e
  subst e
  exact (h.own.lt g rfl).2
theorem Mds.nw1 {w w':World} {B:Nat} {v:Value} {hs:List (Value×List Mt)} (h:Mds w B v hs) (k:Nw w w'):Mds w' B v hs:=h.kp k (fun _ _ _ h=>h)
theorem mtsC_get1 (l:List Mt):∀(i j:Nat) (x:Mt),l[i]? = some x→j<6→(mtsC l)[i*6+j]? = (mtC x)[j]?:=by
 induction l with
 | nil=>intro i j x h;simp at h
 | cons y r ih =>
  intro i j x h hj
  have e:mtsC (y::r)=mtC y++mtsC r:=by simp [mtsC]
  have hl:(mtC y).length=6:=rfl
  rw [e]
  cases i with
  | zero=>simp at h;subst h;rw [List.getElem?_append_left (by omega)];simp
  | succ i =>
   simp at h
   rw [List.getElem?_append_right (by omega),hl]
   have:(i+1)*6+j - 6=i*6+j:=by omega
   rw [this];exact ih i j x h hj
theorem mts_of1 {w:World} {base:Nat} {mp:Option Addr} {mc:Nat} {l:List Mt} (h:w.ownsRow base 70 6 (.slice mp l.length mc) l.length (mtsC l)):MtsP w mp l:=by
 intro hne
 obtain ⟨g,c',e⟩:=owns_some h (List.length_pos_iff.2 hne)
 simp only [Value.slice.injEq,true_and] at e
 obtain ⟨rfl,rfl⟩:=e
 refine ⟨g,rfl,(h.lt g rfl).2,?_⟩
 intro i x hx j v hv
 have hj:j<6:=by have:=(List.getElem?_eq_some_iff.1 hv).1;simpa [mtC] using this
 exact owns_cell h (i*6+j) (by rw [mtsC_get1 l i j x hx hj];exact hv)
theorem chosen_any (p:Option Addr) (cap:Nat) (ns:List Int) (a b:Int) (w:World) (hp:NumsP w p ns) (h64:∀n∈ns,In64 n) (hl:ns.length≤maxLen) (ha:In64 a) (hb:In64 b) :
  Calls Tryz.prog 12 #[.slice p ns.length cap,.int .i64 a,.int .i64 b] w fun e w'=>e=.returned (.bool true)∧Nw w w':=by
 have HST:Hid (Calls Tryz.prog 28 #[.slice p ns.length cap,.int .i64 20] w fun e w'=>∃v,e=.returned v∧Eb w w' v (strTo ns (min ns.length 20)).1):=stream_any p cap 20 ns w hp h64 hl (by omega)
 have HL12:Hid ((strTo ns (min ns.length 20)).1.length≤20):=by show _≤_;rw [strTo_len ns _ (by omega)];omega
 have HLE:Hid (∀e∈(strTo ns (min ns.length 20)).1,EvOk e):=str_ok ns h64 _ (by omega)
 have HLG:Hid (GoesE (bI ⟨#[49,49,49]⟩) 0 (strTo ns (min ns.length 20)).1):=str_goes ns _ (by omega)
 generalize (strTo ns (min ns.length 20)).1=L at HST HL12 HLE HLG
 clear hp h64 hl
 go_enter Tryz.func12,Tryz.ntmps12
 go_wp2_with fail
 refine HST.out.mono ?_
 rintro e1 w1 ⟨lv,rfl,hE⟩
 obtain ⟨lp,lc,rfl⟩:=ownsLenX hE.own
 obtain ⟨hev,hge⟩:=hE.evs1
 have HE1:Hid (∀W,Nw w1 W→EvsP W lp L):=fun W kW=>hev.kp kW (fun _ _ h=>h)
 have HGE1:Hid (∀W,Nw w1 W→∀g,lp=some ⟨g,0,none⟩→g<W.heap.size):=fun W kW g e=>Nat.lt_of_lt_of_le (hge g e) kW.size
 have K1:Hid (Nw w w1):=hE.nw
 clear hE hev hge HST
 go_wp2_with fail
 refine (pieceK_any a w1 ha).mono ?_
 rintro e2 w2 ⟨s,rfl,⟨hs1,hs2⟩,k2⟩
 have K2:Hid (Nw w1 w2):=k2
 clear k2
 go_wp2_with fail
 refine (pieceK_any b w2 hb).mono ?_
 rintro e3 w3 ⟨t,rfl,⟨ht1,ht2⟩,k3⟩
 have K3:Hid (Nw w1 w3):=K2.out.trans k3
 obtain ⟨c0,c1,c2,hS⟩:=hs2 t ht1
 obtain ⟨q0,q1,q2,jj,o0,o1,o2⟩:=hS L HLG.out HL12.out
 have HLn:L.length≤1000:=by have:=HL12.out;omega
 have hz1:¬9223372036854775807<s.size+1:=by have:=q1.z;omega
 have hz2:¬9223372036854775807<s.size+1+t.size:=by have:=q1.z;have:=q2.z;omega
 have HF0:Hid (∀W,Nw w1 W→Calls Tryz.prog 30 #[.string (s++⟨#[124]⟩++t),.slice lp L.length lc] W fun e w'=>∃v hs,e=.returned (.tuple #[v,.bool true])∧Mds w' W.heap.size v hs∧hs.map (·.2)=outS (bI ⟨#[49,49,49]⟩) c0 (beginsS c0) 200 200 ⟨[],0,0,false⟩ L∧Nw W w'):=fun W kW=>found_any _ _ lp lc L W q0 (HE1.out W kW) (HGE1.out W kW) HLn HLE.out
 have HF1:Hid (∀W,Nw w1 W→Calls Tryz.prog 30 #[.string s,.slice lp L.length lc] W fun e w'=>∃v hs,e=.returned (.tuple #[v,.bool true])∧Mds w' W.heap.size v hs∧hs.map (·.2)=outS (bI ⟨#[49,49,49]⟩) c1 (beginsS c1) 200 200 ⟨[],0,0,false⟩ L∧Nw W w'):=fun W kW=>found_any _ _ lp lc L W q1 (HE1.out W kW) (HGE1.out W kW) HLn HLE.out
 have HF2:Hid (∀W,Nw w1 W→Calls Tryz.prog 30 #[.string t,.slice lp L.length lc] W fun e w'=>∃v hs,e=.returned (.tuple #[v,.bool true])∧Mds w' W.heap.size v hs∧hs.map (·.2)=outS (bI ⟨#[49,49,49]⟩) c2 (beginsS c2) 200 200 ⟨[],0,0,false⟩ L∧Nw W w'):=fun W kW=>found_any _ _ lp lc L W q2 (HE1.out W kW) (HGE1.out W kW) HLn HLE.out
 have HAW:Hid (∀W,Nw w1 W→Calls Tryz.prog 31 #[.slice lp L.length lc] W fun e w'=>e=.returned (.bool true)∧Nw W w'):=fun W kW=>awake_any lp lc L W (HE1.out W kW) (HGE1.out W kW) HLn HLE.out HLG.out
 have HLO0:Hid ((outS (bI ⟨#[49,49,49]⟩) c0 (beginsS c0) 200 200 ⟨[],0,0,false⟩ L).length=L.length):=outS_len _ _ _ _ _ _ _
 have HLO1:Hid ((outS (bI ⟨#[49,49,49]⟩) c1 (beginsS c1) 200 200 ⟨[],0,0,false⟩ L).length=L.length):=outS_len _ _ _ _ _ _ _
 have HLO2:Hid ((outS (bI ⟨#[49,49,49]⟩) c2 (beginsS c2) 200 200 ⟨[],0,0,false⟩ L).length=L.length):=outS_len _ _ _ _ _ _ _
 have HJJ:Hid (∀(i:Nat) (A B C:List Mt),(outS (bI ⟨#[49,49,49]⟩) c0 (beginsS c0) 200 200 ⟨[],0,0,false⟩ L)[i]? = some A→(outS (bI ⟨#[49,49,49]⟩) c1 (beginsS c1) 200 200 ⟨[],0,0,false⟩ L)[i]? = some B→(outS (bI ⟨#[49,49,49]⟩) c2 (beginsS c2) 200 200 ⟨[],0,0,false⟩ L)[i]? = some C→JoinK A B C):=jj
 have HO0:Hid (∀l∈outS (bI ⟨#[49,49,49]⟩) c0 (beginsS c0) 200 200 ⟨[],0,0,false⟩ L,l.length≤1000∧∀m∈l,MtOk m):=o0
 have HO1:Hid (∀l∈outS (bI ⟨#[49,49,49]⟩) c1 (beginsS c1) 200 200 ⟨[],0,0,false⟩ L,l.length≤1000∧∀m∈l,MtOk m):=o1
 have HO2:Hid (∀l∈outS (bI ⟨#[49,49,49]⟩) c2 (beginsS c2) 200 200 ⟨[],0,0,false⟩ L,l.length≤1000∧∀m∈l,MtOk m):=o2
 clear hS q0 q1 q2 jj o0 o1 o2 k3 HE1 HGE1 hs1 hs2 ht1 ht2 K2
 generalize outS (bI ⟨#[49,49,49]⟩) c0 (beginsS c0) 200 200 ⟨[],0,0,false⟩ L=O0 at HF0 HJJ HO0 HLO0
 generalize outS (bI ⟨#[49,49,49]⟩) c1 (beginsS c1) 200 200 ⟨[],0,0,false⟩ L=O1 at HF1 HJJ HO1 HLO1
 generalize outS (bI ⟨#[49,49,49]⟩) c2 (beginsS c2) 200 200 ⟨[],0,0,false⟩ L=O2 at HF2 HJJ HO2 HLO2
 have HLN2:Hid (L.length≤20):=HL12.out
 clear HLn
 go_wp2_with fail
 refine (HF0.out _ K3.out).mono ?_
 rintro e4 w4 ⟨v0,hs0,rfl,hm0,ho0,k4⟩
 have hn0:hs0.length=L.length:=by have h1:=congrArg List.length ho0;simp at h1;rw [h1,HLO0.out]
 obtain ⟨vp0,vc0,rfl⟩:=ownsLenX hm0.row
 have M0:Hid (Mds w4 w3.heap.size (.slice vp0 L.length vc0) hs0):=by rw [hn0] at hm0;exact hm0
 rw [hn0]
 have HN0:Hid (hs0.length=L.length):=hn0
 have HQ0:Hid (hs0.map (·.2)=O0):=ho0
 have K4:Hid (Nw w1 w4):=K3.out.trans k4
 have KK0:Hid (Nw w3 w4):=k4
 clear hm0 ho0 k4 HF0 hn0
 go_wp2_with fail
 refine (HF1.out _ K4.out).mono ?_
 rintro e5 w5 ⟨v1,hs1,rfl,hm1,ho1,k5⟩
 have hn1:hs1.length=L.length:=by have h1:=congrArg List.length ho1;simp at h1;rw [h1,HLO1.out]
 obtain ⟨vp1,vc1,rfl⟩:=ownsLenX hm1.row
 have M1:Hid (Mds w5 w4.heap.size (.slice vp1 L.length vc1) hs1):=by rw [hn1] at hm1;exact hm1
 rw [hn1]
 have HN1:Hid (hs1.length=L.length):=hn1
 have HQ1:Hid (hs1.map (·.2)=O1):=ho1
 have K5:Hid (Nw w1 w5):=K4.out.trans k5
 have KK1:Hid (Nw w4 w5):=k5
 clear hm1 ho1 k5 HF1 hn1
 go_wp2_with fail
 refine (HF2.out _ K5.out).mono ?_
 rintro e6 w6 ⟨v2,hs2,rfl,hm2,ho2,k6⟩
 have hn2:hs2.length=L.length:=by have h1:=congrArg List.length ho2;simp at h1;rw [h1,HLO2.out]
 obtain ⟨vp2,vc2,rfl⟩:=ownsLenX hm2.row
 have M2:Hid (Mds w6 w5.heap.size (.slice vp2 L.length vc2) hs2):=by rw [hn2] at hm2;exact hm2
 rw [hn2]
 have HN2:Hid (hs2.length=L.length):=hn2
 have HQ2:Hid (hs2.map (·.2)=O2):=ho2
 have K6:Hid (Nw w1 w6):=K5.out.trans k6
 have KK2:Hid (Nw w5 w6):=k6
 clear hm2 ho2 k6 HF2 hn2
 go_wp2_with fail
 refine (HAW.out _ K6.out).mono ?_
 rintro e7 w7 ⟨rfl,k7⟩
 have R0:Hid (Mds w7 w3.heap.size (.slice vp0 L.length vc0) hs0):=((M0.out.nw1 KK1.out).nw1 KK2.out).nw1 k7
 have R1:Hid (Mds w7 w4.heap.size (.slice vp1 L.length vc1) hs1):=(M1.out.nw1 KK2.out).nw1 k7
 have R2:Hid (Mds w7 w5.heap.size (.slice vp2 L.length vc2) hs2):=M2.out.nw1 k7
 have K7:Hid (Nw w w7):=K1.out.trans (K6.out.trans k7)
 clear k7 HAW M0 M1 M2 KK0 KK1 KK2 K3 K4 K5 K6 K1
 go_wp2
 go_loopg [17] L.length (fun m v17 wr=>∃i:Nat,v17=.int .i64 i∧m=L.length - i∧i≤L.length∧Nw w7 wr)
 case atStart=>exact ⟨0,rfl,rfl,by omega,Kp.refl _ _⟩
 case round =>
  obtain ⟨i,rfl,hmm,hil,hN⟩:=hrel
  have HMM:Hid (_=L.length - i):=hmm
  have HN:Hid (Nw w7 wr):=hN
  clear hmm hN
  by_cases hi:i<L.length
  ·have hii:(i:Int)<L.length:=by omega
   have hz:0≤(i:Int):=by omega
   have hli:L.length≤20:=HLN2.out
   obtain ⟨x0,hx0⟩:∃x,hs0[i]? = some x:=⟨hs0[i]'(by rw [HN0.out];exact hi),by simp [HN0.out,hi]⟩
   obtain ⟨mv0,ml0⟩:=x0
   have hml0:O0[i]? = some ml0:=by rw [←HQ0.out];simp [hx0]
   have hme0:=R0.out.each _ (List.mem_of_getElem? hx0)
   simp only at hme0
   obtain ⟨mp0,mc0,e20⟩:=ownsLenX hme0
   subst e20
   have hrow0:=R0.out.row
   rw [HN0.out] at hrow0
   obtain ⟨ga0,ca0,e30⟩:=owns_some hrow0 (by omega)
   simp only [Value.slice.injEq,true_and] at e30
   obtain ⟨rfl,rfl⟩:=e30
   have HC0:Hid (∀W,Nw wr W→W.cell? ⟨ga0,i,none⟩=some (.slice mp0 ml0.length mc0)):=by
    intro W kW
    exact owns_cell (owns_kp hrow0 (HN.out.trans kW) (fun _ _ h=>h)) i (by simp [hx0])
   have HD0:Hid (∀W,Nw wr W→MtsP W mp0 ml0):=fun W kW=>mts_of1 (owns_kp hme0 (HN.out.trans kW) (fun _ _ h=>h))
   obtain ⟨hol0,hom0⟩:=HO0.out _ (List.mem_of_getElem? hml0)
   obtain ⟨x1,hx1⟩:∃x,hs1[i]? = some x:=⟨hs1[i]'(by rw [HN1.out];exact hi),by simp [HN1.out,hi]⟩
   obtain ⟨mv1,ml1⟩:=x1
   have hml1:O1[i]? = some ml1:=by rw [←HQ1.out];simp [hx1]
   have hme1:=R1.out.each _ (List.mem_of_getElem? hx1)
   simp only at hme1
   obtain ⟨mp1,mc1,e21⟩:=ownsLenX hme1
   subst e21
   have hrow1:=R1.out.row
   rw [HN1.out] at hrow1
   obtain ⟨ga1,ca1,e31⟩:=owns_some hrow1 (by omega)
   simp only [Value.slice.injEq,true_and] at e31
   obtain ⟨rfl,rfl⟩:=e31
   have HC1:Hid (∀W,Nw wr W→W.cell? ⟨ga1,i,none⟩=some (.slice mp1 ml1.length mc1)):=by
    intro W kW
    exact owns_cell (owns_kp hrow1 (HN.out.trans kW) (fun _ _ h=>h)) i (by simp [hx1])
   have HD1:Hid (∀W,Nw wr W→MtsP W mp1 ml1):=fun W kW=>mts_of1 (owns_kp hme1 (HN.out.trans kW) (fun _ _ h=>h))
   obtain ⟨hol1,hom1⟩:=HO1.out _ (List.mem_of_getElem? hml1)
   obtain ⟨x2,hx2⟩:∃x,hs2[i]? = some x:=⟨hs2[i]'(by rw [HN2.out];exact hi),by simp [HN2.out,hi]⟩
   obtain ⟨mv2,ml2⟩:=x2
   have hml2:O2[i]? = some ml2:=by rw [←HQ2.out];simp [hx2]
   have hme2:=R2.out.each _ (List.mem_of_getElem? hx2)
   simp only at hme2
   obtain ⟨mp2,mc2,e22⟩:=ownsLenX hme2
   subst e22
   have hrow2:=R2.out.row
   rw [HN2.out] at hrow2
   obtain ⟨ga2,ca2,e32⟩:=owns_some hrow2 (by omega)
   simp only [Value.slice.injEq,true_and] at e32
   obtain ⟨rfl,rfl⟩:=e32
   have HC2:Hid (∀W,Nw wr W→W.cell? ⟨ga2,i,none⟩=some (.slice mp2 ml2.length mc2)):=by
    intro W kW
    exact owns_cell (owns_kp hrow2 (HN.out.trans kW) (fun _ _ h=>h)) i (by simp [hx2])
   have HD2:Hid (∀W,Nw wr W→MtsP W mp2 ml2):=fun W kW=>mts_of1 (owns_kp hme2 (HN.out.trans kW) (fun _ _ h=>h))
   obtain ⟨hol2,hom2⟩:=HO2.out _ (List.mem_of_getElem? hml2)
   have HJO:Hid (∀W,Nw wr W→Calls Tryz.prog 32 #[.slice mp0 ml0.length mc0,.slice mp1 ml1.length mc1,.slice mp2 ml2.length mc2] W fun e w'=>e=.returned (.bool true)∧Nw W w'):=fun W kW=>joinsM_any mp0 mp1 mp2 mc0 mc1 mc2 ml0 ml1 ml2 W (HD0.out W kW) (HD1.out W kW) (HD2.out W kW) hol0 hol1 hol2 hom0 hom1 hom2 (HJJ.out i ml0 ml1 ml2 hml0 hml1 hml2)
   clear hme0 hme1 hme2 hrow0 hrow1 hrow2 hx0 hx1 hx2 hml0 hml1 hml2 hol0 hol1 hol2 hom0 hom1 hom2 HD0 HD1 HD2
   go_wp2
   refine wp_region_held_drew (S:=fun W=>Nw wr W) (by kernel_rfl) ((Kp.refl _ _).drew) (fun hHeld => ?_)
   refine tL (i:=0) (v := ?_) rfl (Or.inl ⟨by rfl,fun W hSW => ?y0⟩) hHeld ?_
   case y0=>(try dsimp only at hSW);go_simp;rw []
   simp only [Act.put,sA,sZ,sS]
   refine tL (i:=1) (v := ?_) rfl (Or.inl ⟨by rfl,fun W hSW => ?y1⟩) hHeld ?_
   case y1=>(try dsimp only at hSW);go_simp;rw []
   simp only [Act.put,sA,sZ,sS]
   refine tL (i:=2) (v := ?_) rfl (Or.inl ⟨by rfl,fun W hSW => ?y2⟩) hHeld ?_
   case y2=>(try dsimp only at hSW);go_simp;rw []
   simp only [Act.put,sA,sZ,sS]
   refine tL (i:=3) (v := ?_) rfl (Or.inl ⟨by rfl,fun W hSW => ?y3⟩) hHeld ?_
   case y3=>(try dsimp only at hSW);have hq:=HC0.out W hSW;go_simp;rw []
   simp only [Act.put,sA,sZ,sS]
   refine tL (i:=4) (v := ?_) rfl (Or.inl ⟨by rfl,fun W hSW => ?y4⟩) hHeld ?_
   case y4=>(try dsimp only at hSW);go_simp;rw []
   simp only [Act.put,sA,sZ,sS]
   refine tL (i:=5) (v := ?_) rfl (Or.inl ⟨by rfl,fun W hSW => ?y5⟩) hHeld ?_
   case y5=>(try dsimp only at hSW);go_simp;rw []
   simp only [Act.put,sA,sZ,sS]
   refine tL (i:=6) (v := ?_) rfl (Or.inl ⟨by rfl,fun W hSW => ?y6⟩) hHeld ?_
   case y6=>(try dsimp only at hSW);go_simp;rw []
   simp only [Act.put,sA,sZ,sS]
   refine tL (i:=7) (v := ?_) rfl (Or.inl ⟨by rfl,fun W hSW => ?y7⟩) hHeld ?_
   case y7=>(try dsimp only at hSW);have hq:=HC1.out W hSW;go_simp;rw []
   simp only [Act.put,sA,sZ,sS]
   refine tL (i:=8) (v := ?_) rfl (Or.inl ⟨by rfl,fun W hSW => ?y8⟩) hHeld ?_
   case y8=>(try dsimp only at hSW);go_simp;rw []
   simp only [Act.put,sA,sZ,sS]
   refine tL (i:=9) (v := ?_) rfl (Or.inl ⟨by rfl,fun W hSW => ?y9⟩) hHeld ?_
   case y9=>(try dsimp only at hSW);go_simp;rw []
   simp only [Act.put,sA,sZ,sS]
   refine tL (i:=10) (v := ?_) rfl (Or.inl ⟨by rfl,fun W hSW => ?y10⟩) hHeld ?_
   case y10=>(try dsimp only at hSW);go_simp;rw []
   simp only [Act.put,sA,sZ,sS]
   refine tL (i:=11) (v := ?_) rfl (Or.inl ⟨by rfl,fun W hSW => ?y11⟩) hHeld ?_
   case y11=>(try dsimp only at hSW);have hq:=HC2.out W hSW;go_simp;rw []
   simp only [Act.put,sA,sZ,sS]
   refine wpAnyH_ready (rs:=[12]) (by kernel_rfl) (by simp) ?_
   refine consL rfl (fun K hK => ?_) AllReadyH.nil
   go_simp
   refine (HJO.out _ ((Kp.refl _ _).drew)).mono ?_
   rintro e2 w2 ⟨rfl,k2⟩
   have k8:Nw wr w2:=((Kp.refl _ _).drew).trans k2
   try dsimp only
   refine hK.out _ _ k8 (fun _ => ?_)
   clear hK K
   try simp only [Act.put,sA,sZ,sS]
   refine tL (i:=13) (v := ?_) rfl (Or.inl ⟨by rfl,fun W hSW => ?y13⟩) k8 ?_
   case y13=>(try dsimp only at hSW);go_simp;rw []
   simp only [Act.put,sA,sZ,sS]
   refine wpAnyH_done (by kernel_rfl) ?_ _
   have K8:Hid (Nw w7 w2):=HN.out.trans k8
   clear k8 k2 HJO HC0 HC1 HC2
   go_wp2
   go_roundg (L.length - (i+1))
   case measure=>rw [HMM.out];omega
   case rel=>exact ⟨i+1,by simp,rfl,by omega,K8.out⟩
  ·have hii:¬(i:Int)<L.length:=by omega
   go_wp2
   go_ret
   exact ⟨rfl,K7.out.trans HN.out⟩
section
open Go.ChangeShapes Go.WideShapes Go.ChangeAt Go.RowKit Go.Deep
theorem Tryz.tlaid:laidOutB Tryz.prog=true:=by kernel_rfl
theorem Tryz.town:ownKnob Tryz.prog.godebug=none:=by kernel_rfl
theorem Tryz.tb4:Tryz.prog.underlying 4=some .bool:=by kernel_rfl
theorem Tryz.ti3:Tryz.prog.underlying 3=some (.int .i64):=by kernel_rfl
theorem Tryz.ts73:Tryz.prog.underlying 73=some (.slice 3):=by kernel_rfl
theorem Tryz.tc3:Tryz.prog.cellsOf 3=1:=by kernel_rfl
theorem in64_wf {n:Int} (h:(Lit.int .i64 n).wf=true):In64 n:=by
 simp [Lit.wf,IntKind.min,IntKind.max,IntKind.signed,IntKind.bits] at h
 unfold In64
 omega
theorem nums_open {H:Type} {enc:TypeId×Value→H} {W:World} {held:Bool} {a0:Option Addr} {len cap:Nat} {d:DataW H} {ps:List MemPlace} (h:DataW.Trod enc Tryz.prog W 0 (fun _=>true) held 73 (.slice a0 len cap) d ps) :
  ∃ns:List Int,ns.length=len∧NumsP W a0 ns∧(∀n∈ns,In64 n)∧ns.length≤maxLen:=by
 obtain ⟨fuel,hf⟩:=h
 rcases open_ints Tryz.ts73 Tryz.ti3 Tryz.tc3 hf with ⟨hcs,_⟩ | ⟨a,len',cap',zs,hcs,_,hl,hm,hz,_,hcell,hwf⟩
 ·simp [Value.cells] at hcs
  obtain ⟨rfl,rfl,rfl⟩:=hcs
  exact ⟨[],rfl,fun h=>absurd rfl h,fun n hn=>by simp at hn,by simp⟩
 ·simp [Value.cells] at hcs
  obtain ⟨rfl,rfl,rfl⟩:=hcs
  simp only [if_true] at hz
  have hlen:(zs.take len).length=len:=by rw [List.length_take];omega
  refine ⟨zs.take len,hlen,?_,fun n hn=>in64_wf (hwf n (List.mem_of_mem_take hn)),by rw [hlen];omega⟩
  intro hne
  have h0:0<len:=by
   rcases Nat.eq_zero_or_pos len with e|e
   ·exact absurd (List.eq_nil_of_length_eq_zero (by rw [hlen];exact e)) hne
   ·exact e
  obtain ⟨b,off,spot⟩:=a
  have h00:=hcell 0 (by omega)
  have hspot:spot=none:=by simpa [Addr.add] using World.cell?_spot h00
  subst hspot
  have hadd:∀i:Nat,((⟨b,off,none⟩:Addr).add i)=⟨b,off+i,none⟩:=fun i=>by rw [Addr.add_mid]
  refine ⟨b,off,rfl,?_,?_⟩
  ·rw [hadd] at h00
   exact World.block_lt_of_cell? W ⟨b,off+0,none⟩ h00
  ·intro i n hi
   have hil:i<len:=by have:=(List.getElem?_eq_some_iff.1 hi).1;rwa [hlen] at this
   rw [List.getElem?_take_of_lt hil] at hi
   have:=hcell i (by omega)
   rw [hadd] at this
   rw [this]
   simp [List.getD,hi]
theorem chosen_lifted (os:Os) (started:os.Started) (H:Type) (enc:TypeId×Value→H) :
  ReturnsInHanded {} Tryz.checked os 12 .any (Rows.chosenSpec.pre6 enc Tryz.prog Tryz.f12 Rows.chosenRow.domain false) (Rows.chosenSpec.post enc Tryz.prog Tryz.f12 false true false false):=by
 refine returnsInHanded_of_change_sized (C:=Tryz.checked) Tryz.town started (by kernel_rfl) Tryz.func12
  (ChangeSpec.witness6 (enc:=enc) (C:=Tryz.checked) false ⟨#[],#[.slice none 0 0,.int .i64 0,.int .i64 0],[]⟩ 8 (by kernel_rfl) (by kernel_rfl) (by kernel_rfl) (by kernel_rfl)) ?_
 intro W base args ds gs before hval0 hW _ hsz0 _
 clear hsz0
 have hval:∀(j:Nat) t v,Tryz.f12.params[j]? = some t→args[j]? = some v→Value.okWide Tryz.prog W .any base t v:=hval0
 have hW':=hW
 obtain ⟨p,q,hA0,hV,rfl,hfz,_⟩:=hW
 have hA:DataW.TrodAll enc Tryz.prog W 0 (fun _=>true) true Tryz.f12.params.toList args.toList ds p:=hA0
 rw [Tryz.params12] at hA hval
 obtain ⟨v1,vs1,d1,ds1,p1,q1,hargs,rfl,rfl,h1,k1⟩:=trodAll_cons hA
 obtain ⟨v2,vs2,d2,ds2,p2,q2,rfl,rfl,rfl,h2,k2⟩:=trodAll_cons k1
 obtain ⟨v3,vs3,d3,ds3,p3,q3,rfl,rfl,rfl,h3,k3⟩:=trodAll_cons k2
 obtain ⟨rfl,rfl,rfl⟩:=trodAll_nil k3
 have hargs2:args=#[v1,v2,v3]:=by cases args;simp_all
 subst hargs2
 obtain ⟨rfl,rfl⟩:=trodVars_none hV
 obtain ⟨a1,len1,cap1,rfl⟩:=okWide_slice Tryz.ts73 (hval 0 73 v1 rfl rfl)
 obtain ⟨n2,rfl,rfl,rfl,w2⟩:=open_int Tryz.ti3 (hval 1 3 v2 rfl rfl) h2
 obtain ⟨n3,rfl,rfl,rfl,w3⟩:=open_int Tryz.ti3 (hval 2 3 v3 rfl rfl) h3
 clear hA0 hval0 hA hval
 obtain ⟨ns,e1,hp1,hn1,hm1⟩:=nums_open h1
 subst e1
 simp only [List.append_nil,List.nil_append] at hW' hfz
 have hlt:∀x∈p1,x.block<W.heap.size:=fun x hx=>hW'.lt x (by simpa using hx)
 refine (chosen_any a1 cap1 ns n2 n3 W hp1 hn1 hm1 (in64_wf w2) (in64_wf w3)).mono fun e W' ⟨he,hk⟩ => ?_
 subst he
 have hb:Below W.heap.size W W':=hk.toBelow (Nat.le_refl _) (fun _ h=>False.elim h)
 exact ⟨_,rfl,⟨_,_,_,[],_,[],hW',trodAll_mk1 (shut_bool Tryz.tb4 true),
  trodAll_cons_mk (Below.trod Tryz.tlaid (by kernel_rfl) (of_decide_eq_true (by kernel_rfl)) h1 hb hlt) (trodAll_cons_mk (shut_int Tryz.ti3 w2) (trodAll_mk1 (shut_int Tryz.ti3 w3))),rfl,hb.frame _,fun h=>by cases h⟩⟩
theorem chosen_holds:Rows.ChosenSaid :=
 OpenClaim.holds_of_wide 12 Tryz.f12 rfl rfl rfl rfl rfl rfl rfl ⟨rfl,rfl,rfl,rfl,rfl⟩ rfl rfl rfl rfl rfl (by kernel_rfl) Tryz.func12 cf_closed
  (of_decide_eq_true (by kernel_rfl)) (by unfold Func.isWrapper;first|(rw [if_pos (by decide +kernel)];kernel_rfl)|(rw [if_neg (by decide +kernel)];exact ⟨rfl,rfl⟩))
  (fun os started H enc _=>chosen_lifted os started H enc)
#print axioms chosen_holds
end
end Go.Proofs.YtcboiapggnmpfaaGreat
