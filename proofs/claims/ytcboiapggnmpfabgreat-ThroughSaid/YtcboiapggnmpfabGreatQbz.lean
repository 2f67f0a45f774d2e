import Derived.Test.YtcboiapggnmpfabGreatQby
import Derived.Test.YtcboiapggnmpfabGreatRows
import Derived.JoinedOf
import Derived.KernelRfl
import Derived.Deep.MidRow
import Derived.ProofKit
import Derived.ChangeSlices
import Derived.SizedLaws
import Derived.Deep.Slices
import Derived.OpenShut
import Derived.Test.YtcboiapggnmpfabGreatQaf
namespace Go.Proofs.YtcboiapggnmpfabGreat
set_option maxRecDepth 100000
set_option maxHeartbeats 16000000
set_option linter.unusedSimpArgs false
set_option linter.unusedVariables false
open Go.RowKit
structure ThrM (code cz:List In) (L:List Evt) (w:World) (X Y Z:Nat) (lp:Option Addr) (i:Nat) (wr:World):Prop where
 x:RunA wr X (bI ⟨#[49,49,49]⟩) 200 200 code (fun b=>¬b=Y∧¬b=Z) (runS (bI ⟨#[49,49,49]⟩) code (beginsS code) 200 200 ⟨[],0,0,false⟩ (L.take i))
 y:RunA wr Y (bI ⟨#[49,49,49]⟩) 200 200 code (fun b=>¬b=X∧¬b=Z) (runS (bI ⟨#[49,49,49]⟩) code (beginsS code) 200 200 ⟨[],0,0,false⟩ (L.take i))
 z:RunA wr Z (bI ⟨#[49,49,49]⟩) 200 200 cz (fun b=>¬b=X∧¬b=Y) (runS (bI ⟨#[49,49,49]⟩) cz (beginsS cz) 200 200 ⟨[],0,0,false⟩ (L.take i))
 e:EvsP wr lp L
 n:Nw w wr
theorem ThrM.nw {code cz:List In} {L:List Evt} {w:World} {X Y Z:Nat} {lp:Option Addr} {i:Nat} {wr w':World} (h:ThrM code cz L w X Y Z lp i wr) (k:Nw wr w'):ThrM code cz L w X Y Z lp i w' :=
 ⟨h.x.nw k,h.y.nw k,h.z.nw k,h.e.kp k (fun _ _ h=>h),h.n.trans k⟩
def endX:In:=⟨6,0,0,tst0⟩
theorem insC_oneX (x:In):∀u∈insC x,u.oneCell'=true:=by
 intro u hu
 simp only [insC,List.mem_cons,List.not_mem_nil,or_false] at hu
 rcases hu with h|h|h|h|h|h|h|h|h|h|h|h|h|h <;> subst h <;> rfl
theorem size_insX (x:In):(Tryz.prog.info? 62).map (·.size)=some (insC x).toArray.size:=Tryz.sizeIn
theorem through_any (p:Option Addr) (cap:Nat) (ns:List Int) (a b:Int) (w:World) (hp:NumsP w p ns) (h64:∀n∈ns,In64 n) (hl:ns.length≤maxLen) (ha:In64 a) (hb:In64 b) :
  Calls Tryz.prog 6 #[.slice p ns.length cap,.int .i64 a,.int .i64 b] w fun e w'=>e=.returned (.bool true)∧Nw w w':=by
 have HST:Hid (Calls Tryz.prog 9 #[.slice p ns.length cap,.int .i64 12] w fun e w'=>∃v,e=.returned v∧Eb w w' v (strTo ns (min ns.length 12)).1):=stream_any p cap 12 ns w hp h64 hl (by omega)
 have HSK:Hid (∀s code,NamK s code→StrK code (strTo ns (min ns.length 12)).1):=fun s code hN=>StrK.of hN h64
 have HL12:Hid ((strTo ns (min ns.length 12)).1.length≤12):=by show _≤_;rw [strTo_len ns _ (by omega)];omega
 have HLE:Hid (∀e∈(strTo ns (min ns.length 12)).1,EvOk e):=str_ok ns h64 _ (by omega)
 have HLG:Hid (GoesE (bI ⟨#[49,49,49]⟩) 0 (strTo ns (min ns.length 12)).1):=str_goes ns _ (by omega)
 generalize (strTo ns (min ns.length 12)).1=L at HST HSK HL12 HLE HLG
 clear hp h64 hl
 go_enter Tryz.func6,Tryz.ntmps6
 go_wp2_with fail
 refine HST.out.mono ?_
 rintro e1 w1 ⟨lv,rfl,hE⟩
 obtain ⟨lp,lc,rfl⟩:=ownsLenX hE.own
 obtain ⟨hev,hge⟩:=hE.evs
 have HE1:Hid (EvsP w1 lp L):=hev
 have HGE1:Hid (∀g,lp=some ⟨g,0,none⟩→g<w1.heap.size):=hge
 have K1:Hid (Nw w w1):=hE.nw
 clear hE hev hge HST
 go_wp2_with fail
 refine (awake_any lp lc L w1 HE1.out HGE1.out (by have:=HL12.out;omega) HLE.out HLG.out).mono ?_
 rintro e2 w2 ⟨rfl,k2⟩
 have K2:Hid (Nw w1 w2):=k2
 clear k2
 go_wp2_with fail
 refine (named4_any a w2 ha).mono ?_
 rintro e3 w3 ⟨s,code,rfl,⟨hN,hc4,hc1000⟩,k3⟩
 have K3:Hid (Nw w1 w3):=K2.out.trans k3
 have SK:Hid (StrK code L):=HSK.out s code hN
 have HNW:Hid (∀W,Calls Tryz.prog 18 #[.string ⟨#[49,49,49]⟩,.agg #[.int .i64 200,.int .i64 200],.string s] W (LdPost W (bI ⟨#[49,49,49]⟩) 200 200 code)):=fun W=>new_any _ _ 200 200 _ W (by unfold maxLen;decide) (by have:=hN.z;unfold maxLen;omega) hN.p (by omega) (by omega) (by omega) (by omega)
 have HLD:Hid (∀W g cap,Code' W g code→Calls Tryz.prog 25 #[.string ⟨#[49,49,49]⟩,.agg #[.int .i64 200,.int .i64 200],.slice (some ⟨g,0,none⟩) code.length cap] W (LdPost W (bI ⟨#[49,49,49]⟩) 200 200 code)):=fun W g cap hc=>load_any _ 200 200 g cap code W (by unfold maxLen;decide) hN.p.sc (by omega) (by omega) (by omega) (by omega) hc hN.p.v hN.p.i
 have HCM:Hid (∀W,Calls Tryz.prog 24 #[.string ⟨#[49,49,49]⟩,.string s] W fun e w'=>∃g cap,e=.returned (.tuple #[.slice (some ⟨g,0,none⟩) code.length cap,.int .i64 0])∧w'.ownsRow W.heap.size 62 14 (.slice (some ⟨g,0,none⟩) code.length cap) code.length (codeC code)∧Nw W w'):=fun W=>compileO_any _ _ _ (by unfold maxLen;decide) (by have:=hN.z;unfold maxLen;omega) hN.p W
 clear hN k3 K2
 go_wp2_with fail
 refine (HCM.out w3).mono ?_
 rintro e4 w4 ⟨gc,cc,rfl,hO,k4⟩
 have HO:Hid (w4.ownsRow w3.heap.size 62 14 (.slice (some ⟨gc,0,none⟩) code.length cc) code.length (codeC code)):=hO
 have K4:Hid (Nw w1 w4):=K3.out.trans k4
 have HGC:Hid (w1.heap.size≤gc∧gc<w4.heap.size):=⟨Nat.le_trans K3.out.size (hO.lt gc rfl).1,(hO.lt gc rfl).2⟩
 clear hO k4 HCM K3
 have hc4i:¬(code.length:Int)<4:=by omega
 have hc0:4≤code.length:=hc4
 clear hc4
 go_wp2_with fail
 refine (great_any w4).mono ?_
 rintro e5 w5 ⟨rfl,k5⟩
 go_wp2_with fail
 refine (HNW.out w5).mono ?_
 rintro e6 w6 ⟨X,rfl,hnx⟩
 have RX:Hid (RunA w6 X (bI ⟨#[49,49,49]⟩) 200 200 code (fun b=>w5.heap.size≤b∧b<w6.heap.size) ⟨[],0,0,false⟩):=hnx.runA
 have HX:Hid (w4.heap.size≤w5.heap.size∧w5.heap.size≤X∧X<w6.heap.size):=⟨k5.size,hnx.x,RX.out.lt⟩
 have K46:Hid (Nw w4 w6):=k5.trans hnx.n
 clear hnx k5
 go_wp2_with fail
 refine (great_any w6).mono ?_
 rintro e7 w7 ⟨rfl,k7⟩
 have HC7:Code' w7 gc code:=(codeOw HO.out).kp (K46.out.trans k7) (fun h=>h)
 go_wp2_with fail
 refine (HLD.out w7 gc cc HC7).mono ?_
 rintro e8 w8 ⟨Y,rfl,hny⟩
 have RY:Hid (RunA w8 Y (bI ⟨#[49,49,49]⟩) 200 200 code (fun b=>w7.heap.size≤b∧b<w8.heap.size) ⟨[],0,0,false⟩):=hny.runA
 have HY:Hid (w6.heap.size≤w7.heap.size∧w7.heap.size≤Y∧Y<w8.heap.size):=⟨k7.size,hny.x,RY.out.lt⟩
 have K68:Hid (Nw w6 w8):=k7.trans hny.n
 clear hny k7 HC7 HLD HNW
 go_wp2_with fail
 refine (great_any w8).mono ?_
 rintro e9 w9 ⟨rfl,k9⟩
 go_wp2_with fail
 refine (named4_any b w9 hb).mono ?_
 rintro e10 w10 ⟨sz,cz,rfl,⟨hNz,hz4,hz1000⟩,k10⟩
 have SZ:Hid (StrK cz L):=HSK.out sz cz hNz
 have HNZ:Hid (∀W,Calls Tryz.prog 18 #[.string ⟨#[49,49,49]⟩,.agg #[.int .i64 200,.int .i64 200],.string sz] W (LdPost W (bI ⟨#[49,49,49]⟩) 200 200 cz)):=fun W=>new_any _ _ 200 200 _ W (by unfold maxLen;decide) (by have:=hNz.z;unfold maxLen;omega) hNz.p (by omega) (by omega) (by omega) (by omega)
 clear hNz hz4 hz1000 HSK
 go_wp2_with fail
 refine (HNZ.out w10).mono ?_
 rintro e11 w11 ⟨Z,rfl,hnz⟩
 have RZ:Hid (RunA w11 Z (bI ⟨#[49,49,49]⟩) 200 200 cz (fun b=>w10.heap.size≤b∧b<w11.heap.size) ⟨[],0,0,false⟩):=hnz.runA
 have HZ:Hid (w8.heap.size≤w10.heap.size∧w10.heap.size≤Z∧Z<w11.heap.size):=⟨(k9.trans k10).size,hnz.x,RZ.out.lt⟩
 have K811:Hid (Nw w8 w11):=(k9.trans k10).trans hnz.n
 clear hnz k9 k10 HNZ
 have HO11:Hid (w11.ownsRow w3.heap.size 62 14 (.slice (some ⟨gc,0,none⟩) code.length cc) code.length (codeC code)):=owns_kp HO.out ((K46.out.trans K68.out).trans K811.out) (fun _ _ h=>h)
 have RX11:Hid (RunA w11 X (bI ⟨#[49,49,49]⟩) 200 200 code (fun b=>¬b=gc∧¬b=Y∧¬b=Z) ⟨[],0,0,false⟩):=(RX.out.nw (K68.out.trans K811.out)).mono (by intro b _ h;have:=HX.out;have:=HY.out;have:=HZ.out;have:=HGC.out;omega)
 have RY11:Hid (RunA w11 Y (bI ⟨#[49,49,49]⟩) 200 200 code (fun b=>¬b=gc∧¬b=X∧¬b=Z) ⟨[],0,0,false⟩):=(RY.out.nw K811.out).mono (by intro b _ h;have:=HX.out;have:=HY.out;have:=HZ.out;have:=HGC.out;omega)
 have RZ11:Hid (RunA w11 Z (bI ⟨#[49,49,49]⟩) 200 200 cz (fun b=>¬b=gc∧¬b=X∧¬b=Y) ⟨[],0,0,false⟩):=RZ.out.mono (by intro b _ h;have:=HX.out;have:=HY.out;have:=HZ.out;have:=HGC.out;omega)
 have K11:Hid (Nw w1 w11):=((K4.out.trans K46.out).trans K68.out).trans K811.out
 have HXY:Hid (w1.heap.size≤X∧w1.heap.size≤Y∧w1.heap.size≤Z∧¬X=Y∧¬X=Z∧¬Y=Z):=by have:=HX.out;have:=HY.out;have:=HZ.out;have:=HGC.out;show _∧_;omega
 have HWG:Hid (w.heap.size≤w1.heap.size):=K1.out.size
 have HLC:Hid ((codeC code).length=code.length*14):=codeC_length code
 clear RX RY RZ K4 K46 K68 K811 HO HX HY HZ
 go_wp2
 go_loopg [18] code.length (fun m v18 wr=>∃(i:Nat) (cs:List Value),v18=.int .i64 i∧m=code.length - i∧i≤code.length∧cs.length=code.length*14∧wr.ownsRow w3.heap.size 62 14 (.slice (some ⟨gc,0,none⟩) code.length cc) code.length cs∧Kp (fun b=>b=gc) w11 wr)
 case atStart=>exact ⟨0,codeC code,rfl,rfl,by omega,HLC.out,HO11.out,Kp.refl _ _⟩
 case round =>
  obtain ⟨i,cs,rfl,hmm,hil,hcl,hor,hkr⟩:=hrel
  have HMM:Hid (_=code.length - i):=hmm
  have HKR:Hid (Kp (fun b=>b=gc) w11 wr):=hkr
  by_cases hi:i<code.length
  ·have hov:=owns_over (vs:=insC endX) hor hi hcl (by rfl)
   have HT:Hid (wr.there gc (i*14) (insC endX).toArray.size):=hov.1
   have HOV:Hid (∃cs',cs'.length=code.length*14∧(wr.setCells gc (i*14) (insC endX)).ownsRow w3.heap.size 62 14 (.slice (some ⟨gc,0,none⟩) code.length cc) code.length cs'):=hov.2
   have hii:(i:Int)<code.length:=by omega
   clear hov hor hcl hmm hkr
   go_wp2_with (first|(with_reducible (show Go.wpList _ _ _ ({ dst:=_,op:=Op.store 62 _ _,type:=_,pos:=_,after:=_,guard:=_ }::_) _ _);refine wpList_store_mid rfl 62 _ _ rfl gc (i*14) (insC endX).toArray rfl rfl HT.out (size_insX endX) (all_oneCell_toArray (insC_oneX endX)) ?_)|fail)
   obtain ⟨cs',hcl',ho'⟩:=HOV.out
   have HKS:Hid (Kp (fun b=>b=gc) w11 (wr.setCells gc (i*14) (insC endX))):=HKR.out.trans (kp_setCells _ _ _)
   have HO':Hid ((wr.setCells gc (i*14) (insC endX)).ownsRow w3.heap.size 62 14 (.slice (some ⟨gc,0,none⟩) code.length cc) code.length cs'):=ho'
   have HCL':Hid (cs'.length=code.length*14):=hcl'
   clear ho' hcl' HT HOV
   generalize wr.setCells gc (i*14) (insC endX)=wn at *
   go_wp2
   go_roundg (code.length - (i+1))
   case measure=>rw [HMM.out];omega
   case rel=>exact ⟨i+1,cs',by simp,rfl,by omega,HCL'.out,HO'.out,HKS.out⟩
  ·have hii:¬(i:Int)<code.length:=by omega
   have T0:Hid (ThrM code cz L w X Y Z lp 0 wr):=by
    refine ⟨(RX11.out.kp hkr (fun b _ h=>h.1)).mono (fun b _ h=>h.2),(RY11.out.kp hkr (fun b _ h=>h.1)).mono (fun b _ h=>h.2),(RZ11.out.kp hkr (fun b _ h=>h.1)).mono (fun b _ h=>h.2),?_,?_⟩
    ·exact (HE1.out.kp K11.out (fun _ _ h=>h)).kp hkr (by intro g e e2;have:=HGE1.out g e;have:=HGC.out;omega)
    ·exact (K1.out.trans K11.out).trans' hkr (by intro b hb e;have:=HGC.out;have:=HWG.out;omega)
   clear hmm hcl hor hkr HO11 RX11 RY11 RZ11 HE1 K1 K11 HLC HKR HMM
   have HLL:=HL12.out
   generalize wr=wq at *
   go_wp2
   clear hi hii hil
   go_loopg [19] L.length (fun m v19 wr=>∃i:Nat,v19=.int .i64 i∧m=L.length - i∧i≤L.length∧ThrM code cz L w X Y Z lp i wr)
   case atStart=>exact ⟨0,rfl,rfl,by omega,T0.out⟩
   case round =>
    obtain ⟨i,rfl,hm,hil,hT⟩:=hrel
    have HMM:Hid (_=L.length - i):=hm
    have T0:Hid (ThrM code cz L w X Y Z lp i wr):=hT
    clear hm
    have hcn:=run_count (r:=⟨[],0,0,false⟩) SK.out.ok i hil
    have hcz:=run_count (r:=⟨[],0,0,false⟩) SZ.out.ok i hil
    have HCN:Hid ((runS (bI ⟨#[49,49,49]⟩) code (beginsS code) 200 200 ⟨[],0,0,false⟩ (L.take i)).count=i):=by show _=_;rw [hcn];show 0+i=i;omega
    have HCT:Hid ((runS (bI ⟨#[49,49,49]⟩) code (beginsS code) 200 200 ⟨[],0,0,false⟩ (L.take i)).count≤1000000):=by show _≤_;rw [HCN.out];omega
    have HCTZ:Hid ((runS (bI ⟨#[49,49,49]⟩) cz (beginsS cz) 200 200 ⟨[],0,0,false⟩ (L.take i)).count≤1000000):=by show _≤_;rw [hcz];show 0+i≤_;omega
    clear hcn hcz
    by_cases hi:i<L.length
    ·obtain ⟨x,hx⟩:∃x,L[i]? = some x:=⟨L[i],by simp [hi]⟩
     have hne:¬L=[]:=by intro e;rw [e] at hx;simp at hx
     have HXO:Hid (EvOk x):=HLE.out x (List.mem_of_getElem? hx)
     have HTK:Hid (L.take (i+1)=L.take i++[x]):=by show _=_;rw [List.take_add_one,hx];rfl
     obtain ⟨gx,cx,bx,hkx,hcx,_⟩:=hT.x
     have hmo:=feed_mts hcx hkx.k HXO.out HCT.out
     have hml:=feed_len (sc:=(bI ⟨#[49,49,49]⟩)) hcx hkx.k HXO.out HCT.out
     obtain ⟨gz,czz,bz,hkz,hccz,_⟩:=hT.z
     have hmlz:=feed_len (sc:=(bI ⟨#[49,49,49]⟩)) hccz hkz.k HXO.out HCTZ.out
     have HR1:Hid ((runS (bI ⟨#[49,49,49]⟩) code (beginsS code) 200 200 ⟨[],0,0,false⟩ (L.take (i+1)))=(feedS (bI ⟨#[49,49,49]⟩) code (beginsS code) 200 200 (runS (bI ⟨#[49,49,49]⟩) code (beginsS code) 200 200 ⟨[],0,0,false⟩ (L.take i)) x).1):=by show _=_;rw [HTK.out,runS_snoc]
     have HR2:Hid ((runS (bI ⟨#[49,49,49]⟩) cz (beginsS cz) 200 200 ⟨[],0,0,false⟩ (L.take (i+1)))=(feedS (bI ⟨#[49,49,49]⟩) cz (beginsS cz) 200 200 (runS (bI ⟨#[49,49,49]⟩) cz (beginsS cz) 200 200 ⟨[],0,0,false⟩ (L.take i)) x).1):=by show _=_;rw [HTK.out,runS_snoc]
     have hz:=SK.out.ok i x hx
     have hzz:=SZ.out.ok i x hx
     obtain ⟨P,hP⟩:∃P,feedS (bI ⟨#[49,49,49]⟩) code (beginsS code) 200 200 (runS (bI ⟨#[49,49,49]⟩) code (beginsS code) 200 200 ⟨[],0,0,false⟩ (L.take i)) x=P:=⟨_,rfl⟩
     obtain ⟨Q,hQ⟩:∃Q,feedS (bI ⟨#[49,49,49]⟩) cz (beginsS cz) 200 200 (runS (bI ⟨#[49,49,49]⟩) cz (beginsS cz) 200 200 ⟨[],0,0,false⟩ (L.take i)) x=Q:=⟨_,rfl⟩
     rw [hP] at hmo hml HR1 hz
     rw [hQ] at hmlz HR2 hzz
     have HP:Hid (feedS (bI ⟨#[49,49,49]⟩) code (beginsS code) 200 200 (runS (bI ⟨#[49,49,49]⟩) code (beginsS code) 200 200 ⟨[],0,0,false⟩ (L.take i)) x=P):=hP
     have HQ:Hid (feedS (bI ⟨#[49,49,49]⟩) cz (beginsS cz) 200 200 (runS (bI ⟨#[49,49,49]⟩) cz (beginsS cz) 200 200 ⟨[],0,0,false⟩ (L.take i)) x=Q):=hQ
     have HZP:Hid (P.2.2=0):=hz
     have HZQ:Hid (Q.2.2=0):=hzz
     have HMO:Hid (∀m∈P.2.1,MtOk m):=hmo
     have HML:Hid (P.2.1.length≤10000):=hml
     have hqn:Q.2.1.length≤10000:=hmlz
     clear hmo hml hmlz hz hzz hP hQ hkx hcx hkz hccz HTK hT
     have hil2:(i:Int)<L.length:=by omega
     obtain ⟨ge,rfl,hgl,_⟩:=T0.out.e hne
     have HGE:Hid (ge<w1.heap.size):=HGE1.out ge rfl
     have HEC:Hid (∀W,EvsP W (some ⟨ge,0,none⟩) L→W.cell? ⟨ge,i*5,none⟩=some (.int .i64 x.at')∧W.cell? ⟨ge,i*5+1,none⟩=some (.int .i64 x.kind)∧W.cell? ⟨ge,i*5+2,none⟩=some (.int .i64 x.x)∧W.cell? ⟨ge,i*5+3,none⟩=some (.int .i64 x.y)∧W.cell? ⟨ge,i*5+4,none⟩=some (.int .i64 x.z)):=by
      intro W hW
      obtain ⟨g',e',_,hc'⟩:=hW hne
      cases e'
      exact ⟨hc' i x hx 0 _ rfl,hc' i x hx 1 _ rfl,hc' i x hx 2 _ rfl,hc' i x hx 3 _ rfl,hc' i x hx 4 _ rfl⟩
     clear hx hne hgl
     have HSW:Hid (X<wr.heap.size∧Y<wr.heap.size∧Z<wr.heap.size):=⟨T0.out.x.lt,T0.out.y.lt,T0.out.z.lt⟩
     have HF1:Hid (Calls Tryz.prog 21 #[.pointer (some ⟨X,0,none⟩),.agg #[.int .i64 x.at',.int .i64 x.kind,.int .i64 x.x,.int .i64 x.y,.int .i64 x.z]] wr (FedA wr X (bI ⟨#[49,49,49]⟩) 200 200 code (fun b=>¬b=Y∧¬b=Z) P)):=by
      have:=feedA_any T0.out.x (fun b hb=>by have:=HSW.out;omega) HXO.out HCT.out
      rw [HP.out] at this
      exact this
     obtain ⟨d0,d1,d2,d3,d4⟩:=HEC.out wr T0.out.e
     go_wp2_with fail
     refine HF1.out.mono ?_
     rintro e5 w5 ⟨mp1,mc1,rfl,hO1,hx5,kk5,_⟩
     have HO1:Hid (w5.ownsRow wr.heap.size 36 6 (.slice mp1 P.2.1.length mc1) P.2.1.length (mtsC P.2.1)):=hO1
     have HS5:Hid (wr.heap.size≤w5.heap.size):=kk5.size
     have X5:Hid (RunA w5 X (bI ⟨#[49,49,49]⟩) 200 200 code (fun b=>(¬b=Y∧¬b=Z)∧b<w5.heap.size) P.1):=hx5.mono (fun b h1 h2=>⟨h2,h1⟩)
     have Y5:Hid (RunA w5 Y (bI ⟨#[49,49,49]⟩) 200 200 code (fun b=>(¬b=X∧¬b=Z)∧b<w5.heap.size) (runS (bI ⟨#[49,49,49]⟩) code (beginsS code) 200 200 ⟨[],0,0,false⟩ (L.take i))):=(T0.out.y.kp kk5 (by intro b _ h e;exact h.1 e)).mono (fun b h1 h2=>⟨h2,h1⟩)
     have Z5:Hid (RunA w5 Z (bI ⟨#[49,49,49]⟩) 200 200 cz (fun b=>¬b=X∧¬b=Y) (runS (bI ⟨#[49,49,49]⟩) cz (beginsS cz) 200 200 ⟨[],0,0,false⟩ (L.take i))):=T0.out.z.kp kk5 (by intro b _ h e;exact h.1 e)
     have E5:Hid (EvsP w5 (some ⟨ge,0,none⟩) L):=T0.out.e.kp kk5 (by intro g' e' e2;cases e';have:=HGE.out;have:=HXY.out;omega)
     have N5:Hid (Nw w w5):=T0.out.n.trans' kk5 (by intro b hb e;have:=HXY.out;have:=HWG.out;omega)
     have HF2:Hid (Calls Tryz.prog 21 #[.pointer (some ⟨Z,0,none⟩),.agg #[.int .i64 x.at',.int .i64 x.kind,.int .i64 x.x,.int .i64 x.y,.int .i64 x.z]] w5 (FedC w5 Z (bI ⟨#[49,49,49]⟩) 200 200 cz (fun b=>¬b=X∧¬b=Y) Q)):=by
      have:=feedC_any Z5.out (fun b hb=>by have:=HSW.out;have:=HS5.out;omega) HXO.out HCTZ.out
      rw [HQ.out] at this
      exact this
     have hz1:=HZP.out
     have hz2:=HZQ.out
     rw [hz1]
     clear hO1 hx5 kk5 HF1 d0 d1 d2 d3 d4 T0
     obtain ⟨d0,d1,d2,d3,d4⟩:=HEC.out w5 E5.out
     go_wp2_with fail
     refine HF2.out.mono ?_
     rintro e6 w6 ⟨kp,kc,rfl,hO2,hz6,kk6⟩
     have HO2:Hid (w6.ownsRow w5.heap.size 36 6 (.slice kp Q.2.1.length kc) Q.2.1.length (mtsC Q.2.1)):=hO2
     have HQL:Hid ((mtsC Q.2.1).length=Q.2.1.length*6):=mtsC_len0 _
     have Z6:Hid (RunA w6 Z (bI ⟨#[49,49,49]⟩) 200 200 cz (fun b=>(¬b=X∧¬b=Y)∧∀g,kp=some ⟨g,0,none⟩→¬b=g) Q.1):=hz6
     have X6:Hid (RunA w6 X (bI ⟨#[49,49,49]⟩) 200 200 code (fun b=>(¬b=Y∧¬b=Z)∧b<w5.heap.size) P.1):=X5.out.kp kk6 (by intro b _ h e;exact h.1.2 e)
     have Y6:Hid (RunA w6 Y (bI ⟨#[49,49,49]⟩) 200 200 code (fun b=>(¬b=X∧¬b=Z)∧b<w5.heap.size) (runS (bI ⟨#[49,49,49]⟩) code (beginsS code) 200 200 ⟨[],0,0,false⟩ (L.take i))):=Y5.out.kp kk6 (by intro b _ h e;exact h.1.2 e)
     have E6:Hid (EvsP w6 (some ⟨ge,0,none⟩) L):=E5.out.kp kk6 (by intro g' e' e2;cases e';have:=HGE.out;have:=HXY.out;omega)
     have N6:Hid (Nw w w6):=N5.out.trans' kk6 (by intro b hb e;have:=HXY.out;have:=HWG.out;omega)
     have HO16:Hid (w6.ownsRow wr.heap.size 36 6 (.slice mp1 P.2.1.length mc1) P.2.1.length (mtsC P.2.1)):=owns_kp HO1.out kk6 (by intro b hb e;have:=(HO1.out.lt b hb).1;have:=HSW.out;omega)
     have HM1:Hid (∀b,Value.ownBlock (.slice mp1 P.2.1.length mc1)=some b→b<w5.heap.size):=fun b hb=>(HO1.out.lt b hb).2
     have HS6:Hid (w5.heap.size≤w6.heap.size):=kk6.size
     have HKG:Hid (∀g,kp=some ⟨g,0,none⟩→w5.heap.size≤g):=by
      intro g e
      subst e
      exact (hO2.lt g rfl).1
     rw [hz2]
     clear hO2 hz6 kk6 HF2 d0 d1 d2 d3 d4 X5 Y5 Z5 E5 N5 HO1
     go_wp2
     generalize wr=wo at *
     go_loopg [24] Q.2.1.length (fun m v24 wk=>∃(j:Nat) (cs:List Value),v24=.int .i64 j∧m=Q.2.1.length - j∧j≤Q.2.1.length∧cs.length=Q.2.1.length*6∧wk.ownsRow w5.heap.size 36 6 (.slice kp Q.2.1.length kc) Q.2.1.length cs∧Kp (fun b=>kp=some ⟨b,0,none⟩) w6 wk)
     case atStart=>exact ⟨0,_,rfl,rfl,by omega,HQL.out,HO2.out,Kp.refl _ _⟩
     case round =>
      obtain ⟨j,cs,rfl,hmm,hjl,hcl,hor,hkr⟩:=hrel
      have HMJ:Hid (_=Q.2.1.length - j):=hmm
      by_cases hj:j<Q.2.1.length
      ·obtain ⟨gk,ck,ek⟩:=owns_some hor (by omega)
       simp only [Value.slice.injEq,true_and] at ek
       obtain ⟨rfl,rfl⟩:=ek
       have hov:=owns_over (vs:=mtC ⟨-9,0,0,0,0,0⟩) hor hj hcl (by rfl)
       have HT:Hid (wr.there gk (j*6) (mtC ⟨-9,0,0,0,0,0⟩).toArray.size):=hov.1
       obtain ⟨cs',hcl',ho'⟩:=hov.2
       have HKS:Hid (Kp (fun b=>(some ⟨gk,0,none⟩:Option Addr)=some ⟨b,0,none⟩) w6 (wr.setCells gk (j*6) (mtC ⟨-9,0,0,0,0,0⟩))):=hkr.trans ((kp_setCells (g:=gk) _ _ _).mono (by intro b _ e;rw [e]))
       have HO':Hid ((wr.setCells gk (j*6) (mtC ⟨-9,0,0,0,0,0⟩)).ownsRow w5.heap.size 36 6 (.slice (some ⟨gk,0,none⟩) Q.2.1.length kc) Q.2.1.length cs'):=ho'
       have HCL':Hid (cs'.length=Q.2.1.length*6):=hcl'
       have hjj:(j:Int)<Q.2.1.length:=by omega
       clear hov hor hcl hmm hkr ho' hcl'
       go_wp2_with (first|(with_reducible (show Go.wpList _ _ _ ({ dst:=_,op:=Op.store 36 _ _,type:=_,pos:=_,after:=_,guard:=_ }::_) _ _);refine wpList_store_mid rfl 36 _ _ rfl gk (j*6) (mtC ⟨-9,0,0,0,0,0⟩).toArray rfl rfl HT.out (size_mtA ⟨-9,0,0,0,0,0⟩) (all_oneCell_toArray (mtC_one ⟨-9,0,0,0,0,0⟩)) ?_)|fail)
       clear HT
       generalize wr.setCells gk (j*6) (mtC ⟨-9,0,0,0,0,0⟩)=wn at *
       go_wp2
       go_roundg (Q.2.1.length - (j+1))
       case measure=>rw [HMJ.out];omega
       case rel=>exact ⟨j+1,cs',by simp,rfl,by omega,HCL'.out,HO'.out,HKS.out⟩
      ·have hjj:¬(j:Int)<Q.2.1.length:=by omega
       have X7:Hid (RunA wr X (bI ⟨#[49,49,49]⟩) 200 200 code (fun b=>¬b=Y∧¬b=Z) P.1):=(X6.out.kp hkr (by intro b _ h e;have:=HKG.out b e;omega)).mono (fun b _ h=>h.1)
       have Y7:Hid (RunA wr Y (bI ⟨#[49,49,49]⟩) 200 200 code (fun b=>¬b=X∧¬b=Z) (runS (bI ⟨#[49,49,49]⟩) code (beginsS code) 200 200 ⟨[],0,0,false⟩ (L.take i))):=(Y6.out.kp hkr (by intro b _ h e;have:=HKG.out b e;omega)).mono (fun b _ h=>h.1)
       have Z7:Hid (RunA wr Z (bI ⟨#[49,49,49]⟩) 200 200 cz (fun b=>¬b=X∧¬b=Y) Q.1):=(Z6.out.kp hkr (by intro b _ h e;exact h.2 b e rfl)).mono (fun b _ h=>h.1)
       have E7:Hid (EvsP wr (some ⟨ge,0,none⟩) L):=E6.out.kp hkr (by intro g' e' e2;cases e';have:=HKG.out ge e2;have:=HGE.out;have:=HXY.out;have:=HSW.out;have:=HS5.out;omega)
       have N7:Hid (Nw w wr):=N6.out.trans' hkr (by intro b hb e;have:=HKG.out b e;have:=HXY.out;have:=HSW.out;have:=HS5.out;have:=HWG.out;omega)
       have HO17:Hid (wr.ownsRow wo.heap.size 36 6 (.slice mp1 P.2.1.length mc1) P.2.1.length (mtsC P.2.1)):=owns_kp HO16.out hkr (by intro b hb e;have:=HKG.out b e;have:=HM1.out b hb;omega)
       have HS7:Hid (w6.heap.size≤wr.heap.size):=hkr.size
       have HF3:Hid (Calls Tryz.prog 21 #[.pointer (some ⟨Y,0,none⟩),.agg #[.int .i64 x.at',.int .i64 x.kind,.int .i64 x.x,.int .i64 x.y,.int .i64 x.z]] wr (FedA wr Y (bI ⟨#[49,49,49]⟩) 200 200 code (fun b=>¬b=X∧¬b=Z) P)):=by
        have:=feedA_any Y7.out (fun b hb=>by have:=HSW.out;have:=HS5.out;have:=HS6.out;have:=HS7.out;omega) HXO.out HCT.out
        rw [HP.out] at this
        exact this
       clear hmm hcl hor hkr X6 Y6 Z6 E6 N6 HO16 HO2 hjl HMJ hj
       obtain ⟨d0,d1,d2,d3,d4⟩:=HEC.out wr E7.out
       generalize wr=w7 at *
       go_wp2_with fail
       refine HF3.out.mono ?_
       rintro e8 w8 ⟨mp2,mc2,rfl,hO3,hy8,kk8,_⟩
       have HO18:Hid (w8.ownsRow wo.heap.size 36 6 (.slice mp1 P.2.1.length mc1) P.2.1.length (mtsC P.2.1)):=owns_kp HO17.out kk8 (by intro b hb e;have:=(HO17.out.lt b hb).1;have:=HSW.out;omega)
       have HSM:Hid (Calls Tryz.prog 17 #[.slice mp1 P.2.1.length mc1,.slice mp2 P.2.1.length mc2] w8 fun e w'=>e=.returned (.bool true)∧Nw w8 w'):=sameM_same mp1 mp2 mc1 mc2 P.2.1 w8 (mts_of HO18.out) (mts_of hO3) (by have:=HML.out;omega) HMO.out
       have T8:Hid (ThrM code cz L w X Y Z (some ⟨ge,0,none⟩) (i+1) w8):=by
        refine ⟨?_,?_,?_,E7.out.kp kk8 ?_,N7.out.trans' kk8 ?_⟩
        ·rw [HR1.out];exact X7.out.kp kk8 (by intro b _ h e;exact h.1 e)
        ·rw [HR1.out];exact hy8
        ·rw [HR2.out];exact Z7.out.kp kk8 (by intro b _ h e;exact h.2 e)
        ·intro g' e' e2;cases e';have:=HGE.out;have:=HXY.out;omega
        ·intro b hb e;have:=HXY.out;have:=HWG.out;omega
       rw [hz1]
       clear hO3 hy8 kk8 HF3 d0 d1 d2 d3 d4 X7 Y7 Z7 E7 N7 HO17 HO18
       go_wp2_with fail
       refine HSM.out.mono ?_
       rintro e9 w9 ⟨rfl,k9⟩
       have T9:Hid (ThrM code cz L w X Y Z (some ⟨ge,0,none⟩) (i+1) w9):=T8.out.nw k9
       clear k9 HSM T8
       go_wp2
       go_roundg (L.length - (i+1))
       case measure=>rw [HMM.out];omega
       case rel=>exact ⟨i+1,by simp,rfl,by omega,T9.out⟩
    ·have hil2:¬(i:Int)<L.length:=by omega
     have ei:i=L.length:=by omega
     have HLX:=T0.out.x.live
     have HLY:=T0.out.y.live
     have HCY:=T0.out.y.count
     have HCN2:((runS (bI ⟨#[49,49,49]⟩) code (beginsS code) 200 200 ⟨[],0,0,false⟩ (L.take i)).count:Int)=(L.length:Int):=by rw [HCN.out,ei]
     rw [HCN2] at HCY
     have HLX':Hid (Calls Tryz.prog 22 #[.pointer (some ⟨X,0,none⟩)] wr fun e w'=>e=.returned (.int .i64 ((runS (bI ⟨#[49,49,49]⟩) code (beginsS code) 200 200 ⟨[],0,0,false⟩ (L.take i)).ws.length:Int))∧w'=wr):=HLX
     have HLY':Hid (Calls Tryz.prog 22 #[.pointer (some ⟨Y,0,none⟩)] wr fun e w'=>e=.returned (.int .i64 ((runS (bI ⟨#[49,49,49]⟩) code (beginsS code) 200 200 ⟨[],0,0,false⟩ (L.take i)).ws.length:Int))∧w'=wr):=HLY
     have HCY':Hid (Calls Tryz.prog 23 #[.pointer (some ⟨Y,0,none⟩)] wr fun e w'=>e=.returned (.int .i64 (L.length:Int))∧w'=wr):=HCY
     clear HLX HLY HCY HCN2 hT
     generalize ((runS (bI ⟨#[49,49,49]⟩) code (beginsS code) 200 200 ⟨[],0,0,false⟩ (L.take i)).ws.length:Int)=ll at HLX' HLY'
     go_wp2_with fail
     refine HLX'.out.mono ?_
     rintro e8 w8 ⟨rfl,rfl⟩
     go_wp2_with fail
     refine HLY'.out.mono ?_
     rintro e8 w8 ⟨rfl,rfl⟩
     go_wp2_with fail
     refine HCY'.out.mono ?_
     rintro e8 w8 ⟨rfl,rfl⟩
     go_wp2
     go_ret
     exact ⟨rfl,T0.out.n⟩
section
open Go.ChangeShapes Go.WideShapes Go.ChangeAt Go.RowKit Go.Deep
theorem Tryz.tlaid:laidOutB Tryz.prog=true:=by kernel_rfl
theorem Tryz.town:ownKnob Tryz.prog.godebug=none:=by kernel_rfl
theorem Tryz.tb4:Tryz.prog.underlying 4=some .bool:=by kernel_rfl
theorem Tryz.ti3:Tryz.prog.underlying 3=some (.int .i64):=by kernel_rfl
theorem Tryz.ts22:Tryz.prog.underlying 22=some (.slice 3):=by kernel_rfl
theorem Tryz.tc3:Tryz.prog.cellsOf 3=1:=by kernel_rfl
theorem in64_wf {n:Int} (h:(Lit.int .i64 n).wf=true):In64 n:=by
 simp [Lit.wf,IntKind.min,IntKind.max,IntKind.signed,IntKind.bits] at h
 unfold In64
 omega
theorem nums_open {H:Type} {enc:TypeId×Value→H} {W:World} {held:Bool} {a0:Option Addr} {len cap:Nat} {d:DataW H} {ps:List MemPlace} (h:DataW.Trod enc Tryz.prog W 0 (fun _=>true) held 22 (.slice a0 len cap) d ps) :
  ∃ns:List Int,ns.length=len∧NumsP W a0 ns∧(∀n∈ns,In64 n)∧ns.length≤maxLen:=by
 obtain ⟨fuel,hf⟩:=h
 rcases open_ints Tryz.ts22 Tryz.ti3 Tryz.tc3 hf with ⟨hcs,_⟩ | ⟨a,len',cap',zs,hcs,_,hl,hm,hz,_,hcell,hwf⟩
 ·simp [Value.cells] at hcs
  obtain ⟨rfl,rfl,rfl⟩:=hcs
  exact ⟨[],rfl,fun h=>absurd rfl h,fun n hn=>by simp at hn,by simp⟩
 ·simp [Value.cells] at hcs
  obtain ⟨rfl,rfl,rfl⟩:=hcs
  simp only [if_true] at hz
  have hlen:(zs.take len).length=len:=by rw [List.length_take];omega
  refine ⟨zs.take len,hlen,?_,fun n hn=>in64_wf (hwf n (List.mem_of_mem_take hn)),by rw [hlen];omega⟩
  intro hne
  have h0:0<len:=by
   rcases Nat.eq_zero_or_pos len with e|e
   ·exact absurd (List.eq_nil_of_length_eq_zero (by rw [hlen];exact e)) hne
   ·exact e
  obtain ⟨b,off,spot⟩:=a
  have h00:=hcell 0 (by omega)
  have hspot:spot=none:=by simpa [Addr.add] using World.cell?_spot h00
  subst hspot
  have hadd:∀i:Nat,((⟨b,off,none⟩:Addr).add i)=⟨b,off+i,none⟩:=fun i=>by rw [Addr.add_mid]
  refine ⟨b,off,rfl,?_,?_⟩
  ·rw [hadd] at h00
   exact World.block_lt_of_cell? W ⟨b,off+0,none⟩ h00
  ·intro i n hi
   have hil:i<len:=by have:=(List.getElem?_eq_some_iff.1 hi).1;rwa [hlen] at this
   rw [List.getElem?_take_of_lt hil] at hi
   have:=hcell i (by omega)
   rw [hadd] at this
   rw [this]
   simp [List.getD,hi]
end
section
open Go.ChangeShapes Go.WideShapes Go.ChangeAt Go.RowKit Go.Deep
theorem through_lifted (os:Os) (started:os.Started) (H:Type) (enc:TypeId×Value→H) :
  ReturnsInHanded {} Tryz.checked os 6 .any (Rows.throughSpec.pre6 enc Tryz.prog Tryz.f6 Rows.throughRow.domain false) (Rows.throughSpec.post enc Tryz.prog Tryz.f6 false true false false):=by
 refine returnsInHanded_of_change_sized (C:=Tryz.checked) Tryz.town started (by kernel_rfl) Tryz.func6
  (ChangeSpec.witness6 (enc:=enc) (C:=Tryz.checked) false ⟨#[],#[.slice none 0 0,.int .i64 0,.int .i64 0],[]⟩ 8 (by kernel_rfl) (by kernel_rfl) (by kernel_rfl) (by kernel_rfl)) ?_
 intro W base args ds gs before hval0 hW _ hsz0 _
 clear hsz0
 have hval:∀(j:Nat) t v,Tryz.f6.params[j]? = some t→args[j]? = some v→Value.okWide Tryz.prog W .any base t v:=hval0
 have hW':=hW
 obtain ⟨p,q,hA0,hV,rfl,hfz,_⟩:=hW
 have hA:DataW.TrodAll enc Tryz.prog W 0 (fun _=>true) true Tryz.f6.params.toList args.toList ds p:=hA0
 rw [Tryz.params6] at hA hval
 obtain ⟨v1,vs1,d1,ds1,p1,q1,hargs,rfl,rfl,h1,k1⟩:=trodAll_cons hA
 obtain ⟨v2,vs2,d2,ds2,p2,q2,rfl,rfl,rfl,h2,k2⟩:=trodAll_cons k1
 obtain ⟨v3,vs3,d3,ds3,p3,q3,rfl,rfl,rfl,h3,k3⟩:=trodAll_cons k2
 obtain ⟨rfl,rfl,rfl⟩:=trodAll_nil k3
 have hargs2:args=#[v1,v2,v3]:=by cases args;simp_all
 subst hargs2
 obtain ⟨rfl,rfl⟩:=trodVars_none hV
 obtain ⟨a1,len1,cap1,rfl⟩:=okWide_slice Tryz.ts22 (hval 0 22 v1 rfl rfl)
 obtain ⟨n2,rfl,rfl,rfl,w2⟩:=open_int Tryz.ti3 (hval 1 3 v2 rfl rfl) h2
 obtain ⟨n3,rfl,rfl,rfl,w3⟩:=open_int Tryz.ti3 (hval 2 3 v3 rfl rfl) h3
 clear hA0 hval0 hA hval
 obtain ⟨ns,e1,hp1,hn1,hm1⟩:=nums_open h1
 subst e1
 simp only [List.append_nil,List.nil_append] at hW' hfz
 have hlt:∀x∈p1,x.block<W.heap.size:=fun x hx=>hW'.lt x (by simpa using hx)
 refine (through_any a1 cap1 ns n2 n3 W hp1 hn1 hm1 (in64_wf w2) (in64_wf w3)).mono fun e W' ⟨he,hk⟩ => ?_
 subst he
 have hb:Below W.heap.size W W':=hk.toBelow (Nat.le_refl _) (fun _ h=>False.elim h)
 exact ⟨_,rfl,⟨_,_,_,[],_,[],hW',trodAll_mk1 (shut_bool Tryz.tb4 true),
  trodAll_cons_mk (Below.trod Tryz.tlaid (by kernel_rfl) (of_decide_eq_true (by kernel_rfl)) h1 hb hlt) (trodAll_cons_mk (shut_int Tryz.ti3 w2) (trodAll_mk1 (shut_int Tryz.ti3 w3))),rfl,hb.frame _,fun h=>by cases h⟩⟩
theorem through_holds:Rows.ThroughSaid :=
 OpenClaim.holds_of_wide 6 Tryz.f6 rfl rfl rfl rfl rfl rfl rfl ⟨rfl,rfl,rfl,rfl,rfl⟩ rfl rfl rfl rfl rfl (by kernel_rfl) Tryz.func6 thf_closed
  (of_decide_eq_true (by kernel_rfl)) (by unfold Func.isWrapper;first|(rw [if_pos (by decide +kernel)];kernel_rfl)|(rw [if_neg (by decide +kernel)];exact ⟨rfl,rfl⟩))
  (fun os started H enc _=>through_lifted os started H enc)
#print axioms through_holds
end
end Go.Proofs.YtcboiapggnmpfabGreat
