import Derived.Test.YtcboiapggnmpfabGreatQby
import Derived.Test.YtcboiapggnmpfabGreatRows
import Derived.JoinedOf
import Derived.KernelRfl
import Derived.Deep.MidRow
import Derived.ProofKit
import Derived.ChangeSlices
import Derived.SizedLaws
import Derived.Deep.Slices
import Derived.OpenShut
import Derived.Test.YtcboiapggnmpfabGreatQaf
namespace Go.Proofs.YtcboiapggnmpfabGreat
set_option maxRecDepth 100000
set_option maxHeartbeats 16000000
set_option linter.unusedSimpArgs false
set_option linter.unusedVariables false
open Go.RowKit
theorem feed_spent {sc:List Int} {l:List In} {bs:List Nat} {live found:Int} {r:Rst} (hsp:r.spent=true) (e:Evt):feedS sc l bs live found r e=(r,[],12):=by
 unfold feedS;rw [if_pos hsp]
theorem sameM_nil (p:Option Addr) (n cap:Nat) (w:World) (hn:n≤100000):Calls Tryz.prog 17 #[.slice p n cap,.slice none 0 0] w fun e w'=>∃b,e=.returned (.bool b)∧Nw w w':=by
 by_cases h:n=0
 ·subst h
  refine (sameM_same p none cap 0 [] w (fun h=>absurd rfl h) (fun h=>absurd rfl h) (by simp) (fun x hx=>by cases hx)).mono ?_
  rintro e w' ⟨rfl,k⟩
  exact ⟨true,rfl,k⟩
 ·have h1:((n:Int) == 0)=false:=eqb_false (by omega)
  have h2:¬(n:Int)=0:=by omega
  go_enter Tryz.func17,Tryz.ntmps17
  go_wp2
  go_ret
  exact ⟨false,rfl,Kp.refl _ _⟩
structure LimM (code:List In) (L:List Evt) (w:World) (X Y M M2 BL:Nat) (lw le:Nat) (lp:Option Addr) (i:Nat) (sp:Bool) (cnt:Nat) (wr:World):Prop where
 x:RunA wr X (bI ⟨#[49,49,49]⟩) 200 200 code (fun b=>b<M∨M2≤b) (runS (bI ⟨#[49,49,49]⟩) code (beginsS code) 200 200 ⟨[],0,0,false⟩ (L.take i))
 y:∃ry,RunA wr Y (bI ⟨#[49,49,49]⟩) lw le code (fun b=>M≤b) ry∧ry.count=cnt∧(sp=false→ry=runS (bI ⟨#[49,49,49]⟩) code (beginsS code) 200 200 ⟨[],0,0,false⟩ (L.take i))∧(sp=true→ry.spent=true∧ry.ws=[])
 e:EvsP wr lp L
 b:Bx wr BL [.int .i64 lw,.int .i64 le]
 n:Nw w wr
 m:M2≤wr.heap.size
 c:cnt≤i
theorem LimM.nw {code:List In} {L:List Evt} {w:World} {X Y M M2 BL:Nat} {lw le:Nat} {lp:Option Addr} {i:Nat} {sp:Bool} {cnt:Nat} {wr w':World} (h:LimM code L w X Y M M2 BL lw le lp i sp cnt wr) (k:Nw wr w'):LimM code L w X Y M M2 BL lw le lp i sp cnt w':=by
 obtain ⟨ry,h1,h2⟩:=h.y
 exact ⟨h.x.nw k,⟨ry,h1.nw k,h2⟩,h.e.kp k (fun _ _ h=>h),h.b.kp (by simp) k (fun h=>h),h.n.trans k,Nat.le_trans h.m k.size,h.c⟩
theorem limited_any (p:Option Addr) (cap:Nat) (ns:List Int) (a lv so:Int) (w:World) (hp:NumsP w p ns) (h64:∀n∈ns,In64 n) (hl:ns.length≤maxLen) (ha:In64 a) (hlv:In64 lv) (hso:In64 so) :
  Calls Tryz.prog 7 #[.slice p ns.length cap,.int .i64 a,.int .i64 lv,.int .i64 so] w fun e w'=>e=.returned (.bool true)∧Nw w w':=by
 have HST:Hid (Calls Tryz.prog 9 #[.slice p ns.length cap,.int .i64 12] w fun e w'=>∃v,e=.returned v∧Eb w w' v (strTo ns (min ns.length 12)).1):=stream_any p cap 12 ns w hp h64 hl (by omega)
 have HSK:Hid (∀s code,NamK s code→StrK code (strTo ns (min ns.length 12)).1):=fun s code hN=>StrK.of hN h64
 have HL12:Hid ((strTo ns (min ns.length 12)).1.length≤12):=by show _≤_;rw [strTo_len ns _ (by omega)];omega
 have HLE:Hid (∀e∈(strTo ns (min ns.length 12)).1,EvOk e):=str_ok ns h64 _ (by omega)
 have HLG:Hid (GoesE (bI ⟨#[49,49,49]⟩) 0 (strTo ns (min ns.length 12)).1):=str_goes ns _ (by omega)
 have HP1:Hid (∀W,Calls Tryz.prog 14 #[.int .i64 lv,.int .i64 12] W fun e w'=>e=.returned (.int .i64 (pickK lv 12))∧w'=W):=fun W=>pickK_any lv 12 W hlv (by omega) (by omega)
 have HP2:Hid (∀W,Calls Tryz.prog 14 #[.int .i64 so,.int .i64 4] W fun e w'=>e=.returned (.int .i64 (pickK so 4))∧w'=W):=fun W=>pickK_any so 4 W hso (by omega) (by omega)
 have hk1:=pickK_lt (c:=lv) (n:=12) (by omega)
 have hk2:=pickK_lt (c:=so) (n:=4) (by omega)
 obtain ⟨l0,hl0⟩:∃l0:Nat,pickK lv 12=l0:=⟨(pickK lv 12).toNat,by omega⟩
 obtain ⟨f0,hf0⟩:∃f0:Nat,pickK so 4=f0:=⟨(pickK so 4).toNat,by omega⟩
 rw [hl0] at HP1 hk1
 rw [hf0] at HP2 hk2
 clear hl0 hf0
 generalize (strTo ns (min ns.length 12)).1=L at HST HSK HL12 HLE HLG
 clear hp h64 hl
 go_enter Tryz.func7,Tryz.ntmps7
 go_wp2_with fail
 refine HST.out.mono ?_
 rintro e1 w1 ⟨lv',rfl,hE⟩
 obtain ⟨lp,lc,rfl⟩:=ownsLenX hE.own
 obtain ⟨hev,hge⟩:=hE.evs
 have HE1:Hid (EvsP w1 lp L):=hev
 have HGE1:Hid (∀g,lp=some ⟨g,0,none⟩→g<w1.heap.size):=hge
 have K1:Hid (Nw w w1):=hE.nw
 clear hE hev hge HST
 go_wp2_with fail
 refine (awake_any lp lc L w1 HE1.out HGE1.out (by have:=HL12.out;omega) HLE.out HLG.out).mono ?_
 rintro e2 w2 ⟨rfl,k2⟩
 have K2:Hid (Nw w1 w2):=k2
 clear k2
 go_wp2_with fail
 refine (namedK_any a w2 ha).mono ?_
 rintro e3 w3 ⟨s,code,rfl,hN,k3⟩
 have K3:Hid (Nw w1 w3):=K2.out.trans k3
 have SK:Hid (StrK code L):=HSK.out s code hN
 have HNW:Hid (∀W (l1 l2:Int),1≤l1→l1≤200→1≤l2→l2≤200→Calls Tryz.prog 18 #[.string ⟨#[49,49,49]⟩,.agg #[.int .i64 l1,.int .i64 l2],.string s] W (LdPost W (bI ⟨#[49,49,49]⟩) l1 l2 code)):=fun W l1 l2 h1 h2 h3 h4=>new_any _ _ l1 l2 _ W (by unfold maxLen;decide) (by have:=hN.z;unfold maxLen;omega) hN.p h1 h2 h3 h4
 clear hN k3 HSK K2
 go_wp2_with fail
 refine (HP1.out _).mono ?_
 rintro e4 w4 ⟨rfl,rfl⟩
 go_wp2_with fail
 refine (HP2.out _).mono ?_
 rintro e4 w4 ⟨rfl,rfl⟩
 go_wp2_with fail
 refine (great_any _).mono ?_
 rintro e5 w5 ⟨rfl,k5⟩
 have eL:(1:Int)+(l0:Int)=((1+l0:Nat):Int):=by push_cast;rfl
 have eF:(1:Int)+(f0:Int)=((1+f0:Nat):Int):=by push_cast;rfl
 rw [eL,eF] at k5
 rw [eL,eF]
 have HKB:Hid (Nw w4 w5):=((Kp.refl _ _).alloc _).trans k5
 have HB5:Hid (Bx w5 w4.heap.size [.int .i64 ((1+l0:Nat):Int),.int .i64 ((1+f0:Nat):Int)]):=(Bx.new w4 [.int .i64 ((1+l0:Nat):Int),.int .i64 ((1+f0:Nat):Int)] 44).kp (by simp) k5 (fun h=>h)
 have HBL5:Hid (w4.heap.size<w5.heap.size):=HB5.out.lt (by simp)
 clear k5
 have hlw1:1≤1+l0∧1+l0≤200:=by omega
 have hle1:1≤1+f0∧1+f0≤200:=by omega
 clear eL eF
 generalize 1+l0=lw at *
 generalize 1+f0=le at *
 go_wp2_with fail
 refine (HNW.out w5 200 200 (by omega) (by omega) (by omega) (by omega)).mono ?_
 rintro e6 w6 ⟨X,rfl,hnx⟩
 have RX:Hid (RunA w6 X (bI ⟨#[49,49,49]⟩) 200 200 code (fun b=>w5.heap.size≤b∧b<w6.heap.size) ⟨[],0,0,false⟩):=hnx.runA
 have HX5:Hid (w5.heap.size≤X∧X<w6.heap.size):=⟨hnx.x,RX.out.lt⟩
 have K6:Hid (Nw w5 w6):=hnx.n
 have hb6:=HB5.out.kp (by simp) hnx.n (fun h=>h)
 have z0:=hb6.cell (k:=0) (v:=.int .i64 (lw:Int)) rfl
 have z1:=hb6.cell (k:=1) (v:=.int .i64 (le:Int)) rfl
 have HNY:Hid (Calls Tryz.prog 18 #[.string ⟨#[49,49,49]⟩,.agg #[.int .i64 (lw:Int),.int .i64 (le:Int)],.string s] w6 (LdPost w6 (bI ⟨#[49,49,49]⟩) lw le code)):=HNW.out w6 lw le (by omega) (by omega) (by omega) (by omega)
 clear hnx HNW hb6
 go_wp2_with fail
 refine HNY.out.mono ?_
 rintro e7 w7 ⟨Y,rfl,hny⟩
 have RY:Hid (RunA w7 Y (bI ⟨#[49,49,49]⟩) lw le code (fun b=>w6.heap.size≤b) ⟨[],0,0,false⟩):=hny.runA.mono (fun b _ h=>h.1)
 have RX7:Hid (RunA w7 X (bI ⟨#[49,49,49]⟩) 200 200 code (fun b=>b<w6.heap.size∨w7.heap.size≤b) ⟨[],0,0,false⟩):=(RX.out.nw hny.n).mono (fun b _ h=>Or.inl h.2)
 have HY7:Hid (w6.heap.size≤Y∧Y<w7.heap.size):=⟨hny.x,RY.out.lt⟩
 have K7:Hid (Nw w4 w7):=(HKB.out.trans K6.out).trans hny.n
 have K17:Hid (Nw w1 w7):=K3.out.trans K7.out
 have HS67:Hid (w6.heap.size≤w7.heap.size):=hny.n.size
 have T0:Hid (LimM code L w X Y w6.heap.size w7.heap.size w4.heap.size lw le lp 0 false 0 w7):=⟨RX7.out,⟨_,RY.out,rfl,fun _=>rfl,fun h=>by cases h⟩,HE1.out.kp K17.out (fun _ _ h=>h),(HB5.out.kp (by simp) K6.out (fun h=>h)).kp (by simp) hny.n (fun h=>h),K1.out.trans K17.out,Nat.le_refl _,Nat.le_refl _⟩
 have HWG:Hid (w.heap.size≤w1.heap.size):=K1.out.size
 have HW14:Hid (w1.heap.size≤w4.heap.size):=K3.out.size
 have HXM:Hid (X<w6.heap.size):=HX5.out.2
 have HXB:Hid (w4.heap.size<X):=Nat.lt_of_lt_of_le HBL5.out HX5.out.1
 have HYM:Hid (Y<w7.heap.size):=HY7.out.2
 have HYG:Hid (w6.heap.size≤Y):=HY7.out.1
 have HGE:Hid (∀g,lp=some ⟨g,0,none⟩→g<w1.heap.size):=HGE1.out
 clear hny HNY z0 z1 RX RX7 RY HX5 HY7 K7 K17 HKB HB5 HBL5 K6 HE1 HGE1
 generalize w6.heap.size=M at *
 generalize w7.heap.size=M2 at *
 generalize w4.heap.size=BL at *
 have HLL:=HL12.out
 go_wp2
 go_loopg [17,18,19,20] L.length (fun m v17 v18 v19 v20 wr=>∃(i:Nat) (sp:Bool) (cnt:Nat),v17=.bool sp∧v18=.int .i64 cnt∧v19=.int .i64 ((runS (bI ⟨#[49,49,49]⟩) code (beginsS code) 200 200 ⟨[],0,0,false⟩ (L.take i)).ws.length:Nat)∧v20=.int .i64 i∧m=L.length - i∧i≤L.length∧LimM code L w X Y M M2 BL lw le lp i sp cnt wr)
 case atStart=>exact ⟨0,false,0,rfl,rfl,rfl,rfl,rfl,by omega,T0.out⟩
 case round =>
  obtain ⟨i,sp,cnt,rfl,rfl,rfl,rfl,hm,hil,hT⟩:=hrel
  have HMM:Hid (_=L.length - i):=hm
  have HT:Hid (LimM code L w X Y M M2 BL lw le lp i sp cnt wr):=hT
  clear hm T0
  have hcn:=run_count (r:=⟨[],0,0,false⟩) SK.out.ok i hil
  have HCN:Hid ((runS (bI ⟨#[49,49,49]⟩) code (beginsS code) 200 200 ⟨[],0,0,false⟩ (L.take i)).count=i):=by show _=_;rw [hcn];show 0+i=i;omega
  have HCT:Hid ((runS (bI ⟨#[49,49,49]⟩) code (beginsS code) 200 200 ⟨[],0,0,false⟩ (L.take i)).count≤1000000):=by show _≤_;rw [HCN.out];omega
  have hcl:=hT.c
  clear hcn
  by_cases hi:i<L.length
  ·obtain ⟨x,hx⟩:∃x,L[i]? = some x:=⟨L[i],by simp [hi]⟩
   have hne:¬L=[]:=by intro e;rw [e] at hx;simp at hx
   have HXO:Hid (EvOk x):=HLE.out x (List.mem_of_getElem? hx)
   have HTK:Hid (L.take (i+1)=L.take i++[x]):=by show _=_;rw [List.take_add_one,hx];rfl
   obtain ⟨gx,cx,bx,hkx,hcx,_⟩:=hT.x
   have hmo:=feed_mts hcx hkx.k HXO.out HCT.out
   have hml:=feed_len (sc:=(bI ⟨#[49,49,49]⟩)) hcx hkx.k HXO.out HCT.out
   have HR1:Hid ((runS (bI ⟨#[49,49,49]⟩) code (beginsS code) 200 200 ⟨[],0,0,false⟩ (L.take (i+1)))=(feedS (bI ⟨#[49,49,49]⟩) code (beginsS code) 200 200 (runS (bI ⟨#[49,49,49]⟩) code (beginsS code) 200 200 ⟨[],0,0,false⟩ (L.take i)) x).1):=by show _=_;rw [HTK.out,runS_snoc]
   have hz:=SK.out.ok i x hx
   have hlim:=feed_lim (lw:=lw) (le:=le) hz
   obtain ⟨P,hP⟩:∃P,feedS (bI ⟨#[49,49,49]⟩) code (beginsS code) 200 200 (runS (bI ⟨#[49,49,49]⟩) code (beginsS code) 200 200 ⟨[],0,0,false⟩ (L.take i)) x=P:=⟨_,rfl⟩
   rw [hP] at hmo HR1 hz hml hlim
   have HP:Hid (feedS (bI ⟨#[49,49,49]⟩) code (beginsS code) 200 200 (runS (bI ⟨#[49,49,49]⟩) code (beginsS code) 200 200 ⟨[],0,0,false⟩ (L.take i)) x=P):=hP
   have HZ:Hid (P.2.2=0):=hz
   have HMO:Hid (∀m∈P.2.1,MtOk m):=hmo
   have HML:Hid (P.2.1.length≤10000):=hml
   obtain ⟨ry,hry,hrc,hr0,hr1⟩:=hT.y
   have HRY:Hid (RunA wr Y (bI ⟨#[49,49,49]⟩) lw le code (fun b=>M≤b) ry):=hry
   have HRC:Hid (ry.count=cnt):=hrc
   have HCY:Hid (ry.count≤1000000):=by show _≤_;rw [hrc];omega
   have HTRI:Hid ((sp=false∧P.1.ws.length≤lw∧P.2.1.length≤le∧feedS (bI ⟨#[49,49,49]⟩) code (beginsS code) lw le ry x=P∧P.1.count=cnt+1)∨(sp=false∧(lw<P.1.ws.length∨le<P.2.1.length)∧feedS (bI ⟨#[49,49,49]⟩) code (beginsS code) lw le ry x=(⟨[],cnt,ry.last,true⟩,[],11))∨(sp=true∧feedS (bI ⟨#[49,49,49]⟩) code (beginsS code) lw le ry x=(ry,[],12)∧ry.spent=true∧ry.ws=[])):=by
    cases sp with
    | false =>
     have e:=hr0 rfl
     subst e
     rcases hlim with ⟨a1,a2,a3⟩ | ⟨a1,a3⟩
     ·left
      refine ⟨rfl,a1,a2,a3,?_⟩
      have h0:(feedS (bI ⟨#[49,49,49]⟩) code (beginsS code) 200 200 (runS (bI ⟨#[49,49,49]⟩) code (beginsS code) 200 200 ⟨[],0,0,false⟩ (L.take i)) x).2.2=0:=by rw [HP.out];exact HZ.out
      have:=feed_count h0
      rw [HP.out] at this
      rw [this,hrc]
     ·right;left
      exact ⟨rfl,a1,by rw [a3,hrc]⟩
    | true =>
     right;right
     obtain ⟨b1,b2⟩:=hr1 rfl
     exact ⟨rfl,feed_spent b1 x,b1,b2⟩
   clear hmo hz hP hkx hcx HTK hml hlim hry hrc hr0 hr1
   obtain ⟨ge,rfl,hgl,hce⟩:=hT.e hne
   have d0:=hce i x hx 0 _ rfl
   have d1:=hce i x hx 1 _ rfl
   have d2:=hce i x hx 2 _ rfl
   have d3:=hce i x hx 3 _ rfl
   have d4:=hce i x hx 4 _ rfl
   simp only [Nat.add_zero] at d0
   have HF1:Hid (Calls Tryz.prog 21 #[.pointer (some ⟨X,0,none⟩),.agg #[.int .i64 x.at',.int .i64 x.kind,.int .i64 x.x,.int .i64 x.y,.int .i64 x.z]] wr (FedA wr X (bI ⟨#[49,49,49]⟩) 200 200 code (fun b=>b<M∨M2≤b) P)):=by
    have:=feedA_any HT.out.x (fun b hb=>Or.inr (Nat.le_trans HT.out.m hb)) HXO.out HCT.out
    rw [HP.out] at this
    exact this
   have hil2:(i:Int)<L.length:=by omega
   clear hce hx hne hT
   go_wp2_with fail
   refine HF1.out.mono ?_
   rintro e8 w8 ⟨mp1,mc1,rfl,hO1,hx8,kk8,_⟩
   have HO1:Hid (w8.ownsRow wr.heap.size 36 6 (.slice mp1 P.2.1.length mc1) P.2.1.length (mtsC P.2.1)):=hO1
   have X8:Hid (RunA w8 X (bI ⟨#[49,49,49]⟩) 200 200 code (fun b=>b<M∨M2≤b) P.1):=hx8
   have K8:Hid (Kp (fun b=>b=X) wr w8):=kk8
   have Y8:Hid (RunA w8 Y (bI ⟨#[49,49,49]⟩) lw le code (fun b=>M≤b) ry):=HRY.out.kp kk8 (by intro b _ hb e;have:=HXM.out;omega)
   have E8:Hid (EvsP w8 (some ⟨ge,0,none⟩) L):=HT.out.e.kp kk8 (by intro g' e' e2;have:=HGE.out g' e';have:=HXB.out;have:=HW14.out;omega)
   have B8:Hid (Bx w8 BL [.int .i64 lw,.int .i64 le]):=HT.out.b.kp (by simp) kk8 (by intro (e:BL=X);have:=HXB.out;omega)
   have hgeX:¬ge=X:=by have:=HGE.out ge rfl;have:=HXB.out;have:=HW14.out;omega
   have q0:w8.cell? ⟨ge,i*5,none⟩=some (.int .i64 x.at'):=(kk8.cell (p:=⟨ge,i*5,none⟩) hgl hgeX).trans d0
   have q1:w8.cell? ⟨ge,i*5+1,none⟩=some (.int .i64 x.kind):=(kk8.cell (p:=⟨ge,i*5+1,none⟩) hgl hgeX).trans d1
   have q2:w8.cell? ⟨ge,i*5+2,none⟩=some (.int .i64 x.x):=(kk8.cell (p:=⟨ge,i*5+2,none⟩) hgl hgeX).trans d2
   have q3:w8.cell? ⟨ge,i*5+3,none⟩=some (.int .i64 x.y):=(kk8.cell (p:=⟨ge,i*5+3,none⟩) hgl hgeX).trans d3
   have q4:w8.cell? ⟨ge,i*5+4,none⟩=some (.int .i64 x.z):=(kk8.cell (p:=⟨ge,i*5+4,none⟩) hgl hgeX).trans d4
   have hz1:=HZ.out
   rw [hz1]
   have hP8:∀b,w8.heap.size≤b→M≤b:=by intro b hb;have:=HT.out.m;have:=HS67.out;have:=K8.out.size;omega
   have hsz8:wr.heap.size≤w8.heap.size:=kk8.size
   have hszr:M2≤wr.heap.size:=HT.out.m
   clear hO1 hx8 kk8 HF1 d0 d1 d2 d3 d4
   rcases HTRI.out with ⟨rfl,a1,a2,a3,a4⟩ | ⟨rfl,a1,a3⟩ | ⟨rfl,a3,a4,a5⟩
   ·have HF2:Hid (Calls Tryz.prog 21 #[.pointer (some ⟨Y,0,none⟩),.agg #[.int .i64 x.at',.int .i64 x.kind,.int .i64 x.x,.int .i64 x.y,.int .i64 x.z]] w8 (FedA w8 Y (bI ⟨#[49,49,49]⟩) lw le code (fun b=>M≤b) P)):=by
     have:=feedA_any Y8.out hP8 HXO.out HCY.out
     rw [a3] at this
     exact this
    go_wp2_with fail
    refine HF2.out.mono ?_
    rintro e9 w9 ⟨mp2,mc2,rfl,hO2,hy9,kk9,hnl⟩
    rw [hz1]
    have X9:Hid (RunA w9 X (bI ⟨#[49,49,49]⟩) 200 200 code (fun b=>b<M∨M2≤b) P.1):=X8.out.kp kk9 (by intro b _ hb e;have:=HYM.out;have:=HYG.out;omega)
    have B9:Hid (Bx w9 BL [.int .i64 lw,.int .i64 le]):=B8.out.kp (by simp) kk9 (by intro (e:BL=Y);have:=HXB.out;have:=HXM.out;have:=HYG.out;omega)
    have T9:Hid (LimM code L w X Y M M2 BL lw le (some ⟨ge,0,none⟩) (i+1) false (cnt+1) w9):=by
     refine ⟨by rw [HR1.out];exact X9.out,⟨_,hy9,a4,fun _=>by rw [HR1.out],fun h=>by cases h⟩,E8.out.kp kk9 ?_,B9.out,(HT.out.n.trans' K8.out ?_).trans' kk9 ?_,by have:=kk9.size;omega,by omega⟩
     ·intro g' e' e2;have:=HGE.out g' e';have:=HXB.out;have:=HW14.out;have:=HXM.out;have:=HYG.out;omega
     ·intro b hb e;have:=HXB.out;have:=HW14.out;have:=HWG.out;omega
     ·intro b hb e;have:=HXB.out;have:=HW14.out;have:=HWG.out;have:=HXM.out;have:=HYG.out;omega
    have HWS:Hid ((P.1.ws.length:Int)=((runS (bI ⟨#[49,49,49]⟩) code (beginsS code) 200 200 ⟨[],0,0,false⟩ (L.take (i+1))).ws.length:Nat)):=by show _=_;rw [HR1.out]
    have HLV:Hid (Calls Tryz.prog 22 #[.pointer (some ⟨X,0,none⟩)] w9 fun e w'=>e=.returned (.int .i64 (P.1.ws.length:Int))∧w'=w9):=X9.out.live
    have z0:=B9.out.cell (k:=0) (v:=.int .i64 (lw:Int)) rfl
    have z1:=B9.out.cell (k:=1) (v:=.int .i64 (le:Int)) rfl
    have HSM:Hid (Calls Tryz.prog 17 #[.slice mp1 P.2.1.length mc1,.slice mp2 P.2.1.length mc2] w9 fun e w'=>e=.returned (.bool true)∧Nw w9 w'):=sameM_same mp1 mp2 mc1 mc2 P.2.1 w9 (mts_of (owns_kp HO1.out kk9 (by intro b hb e;have:=(HO1.out.lt b hb).1;have:=HYM.out;omega))) (mts_of hO2) (by have:=HML.out;omega) HMO.out
    clear hO2 hy9 kk9 hnl HF2 q0 q1 q2 q3 q4 HO1 B9 X9
    go_wp2_with fail
    refine HLV.out.mono ?_
    rintro e10 w10 ⟨rfl,rfl⟩
    clear HLV
    have b1:decide ((lw:Int)<(P.1.ws.length:Int))=false:=by simp;omega
    have b2:decide ((le:Int)<(P.2.1.length:Int))=false:=by simp;omega
    go_wp2_with fail
    refine HSM.out.mono ?_
    rintro e11 w11 ⟨rfl,k11⟩
    have T11:Hid (LimM code L w X Y M M2 BL lw le (some ⟨ge,0,none⟩) (i+1) false (cnt+1) w11):=T9.out.nw k11
    clear k11 HSM T9 z0 z1
    go_wp2
    go_roundg (L.length - (i+1))
    case measure=>rw [HMM.out];omega
    case rel=>exact ⟨i+1,false,_,rfl,by simp,by rw [HWS.out],by simp,rfl,by omega,T11.out⟩
   ·have HF2:Hid (Calls Tryz.prog 21 #[.pointer (some ⟨Y,0,none⟩),.agg #[.int .i64 x.at',.int .i64 x.kind,.int .i64 x.x,.int .i64 x.y,.int .i64 x.z]] w8 (FedA w8 Y (bI ⟨#[49,49,49]⟩) lw le code (fun b=>M≤b) (⟨[],cnt,ry.last,true⟩,[],11))):=by
     have:=feedA_any Y8.out hP8 HXO.out HCY.out
     rw [a3] at this
     exact this
    go_wp2_with fail
    refine HF2.out.mono ?_
    rintro e9 w9 ⟨mp2,mc2,rfl,hO2,hy9,kk9,hnl⟩
    have hnl2:=hnl (by simp)
    simp only [List.length_nil,Value.slice.injEq,true_and] at hnl2
    obtain ⟨rfl,rfl⟩:=hnl2
    simp only [List.length_nil]
    have X9:Hid (RunA w9 X (bI ⟨#[49,49,49]⟩) 200 200 code (fun b=>b<M∨M2≤b) P.1):=X8.out.kp kk9 (by intro b _ hb e;have:=HYM.out;have:=HYG.out;omega)
    have B9:Hid (Bx w9 BL [.int .i64 lw,.int .i64 le]):=B8.out.kp (by simp) kk9 (by intro (e:BL=Y);have:=HXB.out;have:=HXM.out;have:=HYG.out;omega)
    have T9:Hid (LimM code L w X Y M M2 BL lw le (some ⟨ge,0,none⟩) (i+1) true (cnt) w9):=by
     refine ⟨by rw [HR1.out];exact X9.out,⟨_,hy9,rfl,fun h=>(by cases h),fun _=>⟨rfl,rfl⟩⟩,E8.out.kp kk9 ?_,B9.out,(HT.out.n.trans' K8.out ?_).trans' kk9 ?_,by have:=kk9.size;omega,by omega⟩
     ·intro g' e' e2;have:=HGE.out g' e';have:=HXB.out;have:=HW14.out;have:=HXM.out;have:=HYG.out;omega
     ·intro b hb e;have:=HXB.out;have:=HW14.out;have:=HWG.out;omega
     ·intro b hb e;have:=HXB.out;have:=HW14.out;have:=HWG.out;have:=HXM.out;have:=HYG.out;omega
    have HWS:Hid ((P.1.ws.length:Int)=((runS (bI ⟨#[49,49,49]⟩) code (beginsS code) 200 200 ⟨[],0,0,false⟩ (L.take (i+1))).ws.length:Nat)):=by show _=_;rw [HR1.out]
    have HLV:Hid (Calls Tryz.prog 22 #[.pointer (some ⟨X,0,none⟩)] w9 fun e w'=>e=.returned (.int .i64 (P.1.ws.length:Int))∧w'=w9):=X9.out.live
    have z0:=B9.out.cell (k:=0) (v:=.int .i64 (lw:Int)) rfl
    have z1:=B9.out.cell (k:=1) (v:=.int .i64 (le:Int)) rfl
    have HSM:Hid (Calls Tryz.prog 17 #[.slice mp1 P.2.1.length mc1,.slice none 0 0] w9 fun e w'=>∃b,e=.returned (.bool b)∧Nw w9 w'):=sameM_nil mp1 P.2.1.length mc1 w9 (by have:=HML.out;omega)
    clear hO2 hy9 kk9 hnl HF2 q0 q1 q2 q3 q4 HO1 B9 X9
    go_wp2_with fail
    refine HLV.out.mono ?_
    rintro e10 w10 ⟨rfl,rfl⟩
    clear HLV
    by_cases hbw:lw<P.1.ws.length
    ·have b1:decide ((lw:Int)<(P.1.ws.length:Int))=true:=by simp;omega
     go_wp2_with fail
     refine HSM.out.mono ?_
     rintro e11 w11 ⟨sb,rfl,k11⟩
     have T11:Hid (LimM code L w X Y M M2 BL lw le (some ⟨ge,0,none⟩) (i+1) true (cnt) w11):=T9.out.nw k11
     clear k11 HSM T9 z0 z1
     go_wp2
     go_roundg (L.length - (i+1))
     case measure=>rw [HMM.out];omega
     case rel=>exact ⟨i+1,true,_,rfl,by simp,by rw [HWS.out],by simp,rfl,by omega,T11.out⟩
    ·have b1:decide ((lw:Int)<(P.1.ws.length:Int))=false:=by simp;omega
     have b2:decide ((le:Int)<(P.2.1.length:Int))=true:=by simp;omega
     go_wp2_with fail
     refine HSM.out.mono ?_
     rintro e11 w11 ⟨sb,rfl,k11⟩
     have T11:Hid (LimM code L w X Y M M2 BL lw le (some ⟨ge,0,none⟩) (i+1) true (cnt) w11):=T9.out.nw k11
     clear k11 HSM T9 z0 z1
     go_wp2
     go_roundg (L.length - (i+1))
     case measure=>rw [HMM.out];omega
     case rel=>exact ⟨i+1,true,_,rfl,by simp,by rw [HWS.out],by simp,rfl,by omega,T11.out⟩
   ·have HF2:Hid (Calls Tryz.prog 21 #[.pointer (some ⟨Y,0,none⟩),.agg #[.int .i64 x.at',.int .i64 x.kind,.int .i64 x.x,.int .i64 x.y,.int .i64 x.z]] w8 (FedA w8 Y (bI ⟨#[49,49,49]⟩) lw le code (fun b=>M≤b) (ry,[],12))):=by
     have:=feedA_any Y8.out hP8 HXO.out HCY.out
     rw [a3] at this
     exact this
    go_wp2_with fail
    refine HF2.out.mono ?_
    rintro e9 w9 ⟨mp2,mc2,rfl,hO2,hy9,kk9,hnl⟩
    have hnl2:=hnl (by simp)
    simp only [List.length_nil,Value.slice.injEq,true_and] at hnl2
    obtain ⟨rfl,rfl⟩:=hnl2
    simp only [List.length_nil]
    have X9:Hid (RunA w9 X (bI ⟨#[49,49,49]⟩) 200 200 code (fun b=>b<M∨M2≤b) P.1):=X8.out.kp kk9 (by intro b _ hb e;have:=HYM.out;have:=HYG.out;omega)
    have B9:Hid (Bx w9 BL [.int .i64 lw,.int .i64 le]):=B8.out.kp (by simp) kk9 (by intro (e:BL=Y);have:=HXB.out;have:=HXM.out;have:=HYG.out;omega)
    have T9:Hid (LimM code L w X Y M M2 BL lw le (some ⟨ge,0,none⟩) (i+1) true (cnt) w9):=by
     refine ⟨by rw [HR1.out];exact X9.out,⟨_,hy9,HRC.out,fun h=>(by cases h),fun _=>⟨a4,a5⟩⟩,E8.out.kp kk9 ?_,B9.out,(HT.out.n.trans' K8.out ?_).trans' kk9 ?_,by have:=kk9.size;omega,by omega⟩
     ·intro g' e' e2;have:=HGE.out g' e';have:=HXB.out;have:=HW14.out;have:=HXM.out;have:=HYG.out;omega
     ·intro b hb e;have:=HXB.out;have:=HW14.out;have:=HWG.out;omega
     ·intro b hb e;have:=HXB.out;have:=HW14.out;have:=HWG.out;have:=HXM.out;have:=HYG.out;omega
    have HWS:Hid ((P.1.ws.length:Int)=((runS (bI ⟨#[49,49,49]⟩) code (beginsS code) 200 200 ⟨[],0,0,false⟩ (L.take (i+1))).ws.length:Nat)):=by show _=_;rw [HR1.out]
    have HLV:Hid (Calls Tryz.prog 22 #[.pointer (some ⟨X,0,none⟩)] w9 fun e w'=>e=.returned (.int .i64 (P.1.ws.length:Int))∧w'=w9):=X9.out.live
    have z0:=B9.out.cell (k:=0) (v:=.int .i64 (lw:Int)) rfl
    have z1:=B9.out.cell (k:=1) (v:=.int .i64 (le:Int)) rfl
    have HSM:Hid (Calls Tryz.prog 17 #[.slice mp1 P.2.1.length mc1,.slice none 0 0] w9 fun e w'=>∃b,e=.returned (.bool b)∧Nw w9 w'):=sameM_nil mp1 P.2.1.length mc1 w9 (by have:=HML.out;omega)
    clear hO2 hy9 kk9 hnl HF2 q0 q1 q2 q3 q4 HO1 B9 X9
    go_wp2_with fail
    refine HLV.out.mono ?_
    rintro e10 w10 ⟨rfl,rfl⟩
    clear HLV
    by_cases hbw:lw<P.1.ws.length
    ·have b1:decide ((lw:Int)<(P.1.ws.length:Int))=true:=by simp;omega
     go_wp2_with fail
     refine HSM.out.mono ?_
     rintro e11 w11 ⟨sb,rfl,k11⟩
     have T11:Hid (LimM code L w X Y M M2 BL lw le (some ⟨ge,0,none⟩) (i+1) true (cnt) w11):=T9.out.nw k11
     clear k11 HSM T9 z0 z1
     go_wp2
     go_roundg (L.length - (i+1))
     case measure=>rw [HMM.out];omega
     case rel=>exact ⟨i+1,true,_,rfl,by simp,by rw [HWS.out],by simp,rfl,by omega,T11.out⟩
    ·have b1:decide ((lw:Int)<(P.1.ws.length:Int))=false:=by simp;omega
     go_wp2_with fail
     refine HSM.out.mono ?_
     rintro e11 w11 ⟨sb,rfl,k11⟩
     have T11:Hid (LimM code L w X Y M M2 BL lw le (some ⟨ge,0,none⟩) (i+1) true (cnt) w11):=T9.out.nw k11
     clear k11 HSM T9 z0 z1
     go_wp2
     go_roundg (L.length - (i+1))
     case measure=>rw [HMM.out];omega
     case rel=>exact ⟨i+1,true,_,rfl,by simp,by rw [HWS.out],by simp,rfl,by omega,T11.out⟩
  ·have hil2:¬(i:Int)<L.length:=by omega
   have ei:i=L.length:=by omega
   obtain ⟨ry,hry,hrc,hr0,hr1⟩:=hT.y
   have HLY:Hid (Calls Tryz.prog 22 #[.pointer (some ⟨Y,0,none⟩)] wr fun e w'=>e=.returned (.int .i64 (ry.ws.length:Int))∧w'=wr):=hry.live
   have HCY:Hid (Calls Tryz.prog 23 #[.pointer (some ⟨Y,0,none⟩)] wr fun e w'=>e=.returned (.int .i64 (cnt:Int))∧w'=wr):=by have:=hry.count;rw [hrc] at this;exact this
   have HNN:Hid (Nw w wr):=hT.n
   cases sp with
   | false =>
    have e:=hr0 rfl
    subst e
    generalize (runS (bI ⟨#[49,49,49]⟩) code (beginsS code) 200 200 ⟨[],0,0,false⟩ (L.take i)).ws.length=ll at *
    clear hry hrc hr0 hr1 hT
    go_wp2_with fail
    refine HLY.out.mono ?_
    rintro e8 w8 ⟨rfl,rfl⟩
    go_wp2_with fail
    refine HCY.out.mono ?_
    rintro e8 w8 ⟨rfl,rfl⟩
    go_wp2
    go_ret
    exact ⟨rfl,HNN.out⟩
   | true =>
    obtain ⟨b1,b2⟩:=hr1 rfl
    rw [b2] at HLY
    clear hry hrc hr0 hr1 hT
    go_wp2_with fail
    refine HLY.out.mono ?_
    rintro e8 w8 ⟨rfl,rfl⟩
    go_wp2_with fail
    refine HCY.out.mono ?_
    rintro e8 w8 ⟨rfl,rfl⟩
    go_wp2
    go_ret
    exact ⟨rfl,HNN.out⟩
section
open Go.ChangeShapes Go.WideShapes Go.ChangeAt Go.RowKit Go.Deep
theorem Tryz.tlaid:laidOutB Tryz.prog=true:=by kernel_rfl
theorem Tryz.town:ownKnob Tryz.prog.godebug=none:=by kernel_rfl
theorem Tryz.tb4:Tryz.prog.underlying 4=some .bool:=by kernel_rfl
theorem Tryz.ti3:Tryz.prog.underlying 3=some (.int .i64):=by kernel_rfl
theorem Tryz.ts22:Tryz.prog.underlying 22=some (.slice 3):=by kernel_rfl
theorem Tryz.tc3:Tryz.prog.cellsOf 3=1:=by kernel_rfl
theorem in64_wf {n:Int} (h:(Lit.int .i64 n).wf=true):In64 n:=by
 simp [Lit.wf,IntKind.min,IntKind.max,IntKind.signed,IntKind.bits] at h
 unfold In64
 omega
theorem nums_open {H:Type} {enc:TypeId×Value→H} {W:World} {held:Bool} {a0:Option Addr} {len cap:Nat} {d:DataW H} {ps:List MemPlace} (h:DataW.Trod enc Tryz.prog W 0 (fun _=>true) held 22 (.slice a0 len cap) d ps) :
  ∃ns:List Int,ns.length=len∧NumsP W a0 ns∧(∀n∈ns,In64 n)∧ns.length≤maxLen:=by
 obtain ⟨fuel,hf⟩:=h
 rcases open_ints Tryz.ts22 Tryz.ti3 Tryz.tc3 hf with ⟨hcs,_⟩ | ⟨a,len',cap',zs,hcs,_,hl,hm,hz,_,hcell,hwf⟩
 ·simp [Value.cells] at hcs
  obtain ⟨rfl,rfl,rfl⟩:=hcs
  exact ⟨[],rfl,fun h=>absurd rfl h,fun n hn=>by simp at hn,by simp⟩
 ·simp [Value.cells] at hcs
  obtain ⟨rfl,rfl,rfl⟩:=hcs
  simp only [if_true] at hz
  have hlen:(zs.take len).length=len:=by rw [List.length_take];omega
  refine ⟨zs.take len,hlen,?_,fun n hn=>in64_wf (hwf n (List.mem_of_mem_take hn)),by rw [hlen];omega⟩
  intro hne
  have h0:0<len:=by
   rcases Nat.eq_zero_or_pos len with e|e
   ·exact absurd (List.eq_nil_of_length_eq_zero (by rw [hlen];exact e)) hne
   ·exact e
  obtain ⟨b,off,spot⟩:=a
  have h00:=hcell 0 (by omega)
  have hspot:spot=none:=by simpa [Addr.add] using World.cell?_spot h00
  subst hspot
  have hadd:∀i:Nat,((⟨b,off,none⟩:Addr).add i)=⟨b,off+i,none⟩:=fun i=>by rw [Addr.add_mid]
  refine ⟨b,off,rfl,?_,?_⟩
  ·rw [hadd] at h00
   exact World.block_lt_of_cell? W ⟨b,off+0,none⟩ h00
  ·intro i n hi
   have hil:i<len:=by have:=(List.getElem?_eq_some_iff.1 hi).1;rwa [hlen] at this
   rw [List.getElem?_take_of_lt hil] at hi
   have:=hcell i (by omega)
   rw [hadd] at this
   rw [this]
   simp [List.getD,hi]
end
section
open Go.ChangeShapes Go.WideShapes Go.ChangeAt Go.RowKit Go.Deep
theorem limited_lifted (os:Os) (started:os.Started) (H:Type) (enc:TypeId×Value→H) :
  ReturnsInHanded {} Tryz.checked os 7 .any (Rows.limitedSpec.pre6 enc Tryz.prog Tryz.f7 Rows.limitedRow.domain false) (Rows.limitedSpec.post enc Tryz.prog Tryz.f7 false true false false):=by
 refine returnsInHanded_of_change_sized (C:=Tryz.checked) Tryz.town started (by kernel_rfl) Tryz.func7
  (ChangeSpec.witness6 (enc:=enc) (C:=Tryz.checked) false ⟨#[],#[.slice none 0 0,.int .i64 0,.int .i64 0,.int .i64 0],[]⟩ 8 (by kernel_rfl) (by kernel_rfl) (by kernel_rfl) (by kernel_rfl)) ?_
 intro W base args ds gs before hval0 hW _ hsz0 _
 clear hsz0
 have hval:∀(j:Nat) t v,Tryz.f7.params[j]? = some t→args[j]? = some v→Value.okWide Tryz.prog W .any base t v:=hval0
 have hW':=hW
 obtain ⟨p,q,hA0,hV,rfl,hfz,_⟩:=hW
 have hA:DataW.TrodAll enc Tryz.prog W 0 (fun _=>true) true Tryz.f7.params.toList args.toList ds p:=hA0
 rw [Tryz.params7] at hA hval
 obtain ⟨v1,vs1,d1,ds1,p1,q1,hargs,rfl,rfl,h1,k1⟩:=trodAll_cons hA
 obtain ⟨v2,vs2,d2,ds2,p2,q2,rfl,rfl,rfl,h2,k2⟩:=trodAll_cons k1
 obtain ⟨v3,vs3,d3,ds3,p3,q3,rfl,rfl,rfl,h3,k3⟩:=trodAll_cons k2
 obtain ⟨v4,vs4,d4,ds4,p4,q4,rfl,rfl,rfl,h4,k4⟩:=trodAll_cons k3
 obtain ⟨rfl,rfl,rfl⟩:=trodAll_nil k4
 have hargs2:args=#[v1,v2,v3,v4]:=by cases args;simp_all
 subst hargs2
 obtain ⟨rfl,rfl⟩:=trodVars_none hV
 obtain ⟨a1,len1,cap1,rfl⟩:=okWide_slice Tryz.ts22 (hval 0 22 v1 rfl rfl)
 obtain ⟨n2,rfl,rfl,rfl,w2⟩:=open_int Tryz.ti3 (hval 1 3 v2 rfl rfl) h2
 obtain ⟨n3,rfl,rfl,rfl,w3⟩:=open_int Tryz.ti3 (hval 2 3 v3 rfl rfl) h3
 obtain ⟨n4,rfl,rfl,rfl,w4⟩:=open_int Tryz.ti3 (hval 3 3 v4 rfl rfl) h4
 clear hA0 hval0 hA hval
 obtain ⟨ns,e1,hp1,hn1,hm1⟩:=nums_open h1
 subst e1
 simp only [List.append_nil,List.nil_append] at hW' hfz
 have hlt:∀x∈p1,x.block<W.heap.size:=fun x hx=>hW'.lt x (by simpa using hx)
 refine (limited_any a1 cap1 ns n2 n3 n4 W hp1 hn1 hm1 (in64_wf w2) (in64_wf w3) (in64_wf w4)).mono fun e W' ⟨he,hk⟩ => ?_
 subst he
 have hb:Below W.heap.size W W':=hk.toBelow (Nat.le_refl _) (fun _ h=>False.elim h)
 exact ⟨_,rfl,⟨_,_,_,[],_,[],hW',trodAll_mk1 (shut_bool Tryz.tb4 true),
  trodAll_cons_mk (Below.trod Tryz.tlaid (by kernel_rfl) (of_decide_eq_true (by kernel_rfl)) h1 hb hlt) (trodAll_cons_mk (shut_int Tryz.ti3 w2) (trodAll_cons_mk (shut_int Tryz.ti3 w3) (trodAll_mk1 (shut_int Tryz.ti3 w4)))),rfl,hb.frame _,fun h=>by cases h⟩⟩
theorem limited_holds:Rows.LimitedSaid :=
 OpenClaim.holds_of_wide 7 Tryz.f7 rfl rfl rfl rfl rfl rfl rfl ⟨rfl,rfl,rfl,rfl,rfl⟩ rfl rfl rfl rfl rfl (by kernel_rfl) Tryz.func7 lf_closed
  (of_decide_eq_true (by kernel_rfl)) (by unfold Func.isWrapper;first|(rw [if_pos (by decide +kernel)];kernel_rfl)|(rw [if_neg (by decide +kernel)];exact ⟨rfl,rfl⟩))
  (fun os started H enc _=>limited_lifted os started H enc)
#print axioms limited_holds
end
end Go.Proofs.YtcboiapggnmpfabGreat
