import Derived.Test.YtcboiapggnmpfaaGreatQbz
import Derived.Test.YtcboiapggnmpfaaGreatQbx
import Derived.Test.YtcboiapggnmpfaaGreatQah
import Derived.Deep.MidRow
import Derived.ProofKit
import Derived.ChangeSlices
import Derived.SizedLaws
import Derived.Deep.Slices
import Derived.OpenShut
namespace Go.Proofs.YtcboiapggnmpfaaGreat
set_option maxRecDepth 100000
set_option maxHeartbeats 8000000
set_option linter.unusedSimpArgs false
set_option linter.unusedVariables false
open Go.RowKit
def goldC (l:List (ByteArray×ByteArray×Int×Int)):List Value:=(l.map (fun x=>[Value.string x.1,.string x.2.1,.int .i64 x.2.2.1,.int .i64 x.2.2.2])).flatten
theorem golds_any (w:World):Calls Tryz.prog 16 #[] w fun e w'=>e=.returned (.slice (some ⟨w.heap.size,0,none⟩) 16 16)∧Bx w' w.heap.size (goldC goldL)∧Nw w w':=by
 go_enter Tryz.func16,Tryz.ntmps16
 go_wp2
 go_ret
 exact ⟨rfl,Bx.new w (goldC goldL) 53,(Kp.refl _ _).alloc _⟩
theorem gold_cell:∀k,k<16→∃x,goldL[k]? = some x∧(goldC goldL)[k*4]? = some (.string x.1)∧(goldC goldL)[k*4+1]? = some (.string x.2.1)∧(goldC goldL)[k*4+2]? = some (.int .i64 x.2.2.1)∧(goldC goldL)[k*4+3]? = some (.int .i64 x.2.2.2):=by
 intro k hk
 rcases (show k=0∨k=1∨k=2∨k=3∨k=4∨k=5∨k=6∨k=7∨k=8∨k=9∨k=10∨k=11∨k=12∨k=13∨k=14∨k=15 by omega) with rfl|rfl|rfl|rfl|rfl|rfl|rfl|rfl|rfl|rfl|rfl|rfl|rfl|rfl|rfl|rfl <;> exact ⟨_,rfl,rfl,rfl,rfl,rfl⟩
theorem knownL_of (c:Int) (w:World) (hc:In64 c) (hpr:∀W,Calls Tryz.prog 18 #[] W fun e w'=>e=.returned (.bool true)∧Nw W w') (hto:∀W,Calls Tryz.prog 19 #[] W fun e w'=>e=.returned (.bool true)∧Nw W w') :
  Calls Tryz.prog 10 #[.int .i64 c] w fun e w'=>e=.returned (.bool true)∧Nw w w':=by
 have HPR:Hid (∀W,Calls Tryz.prog 18 #[] W fun e w'=>e=.returned (.bool true)∧Nw W w'):=hpr
 have HTO:Hid (∀W,Calls Tryz.prog 19 #[] W fun e w'=>e=.returned (.bool true)∧Nw W w'):=hto
 have HP:Hid (∀W,Calls Tryz.prog 17 #[.int .i64 c,.int .i64 18] W fun e w'=>e=.returned (.int .i64 (pickK c 18))∧w'=W):=fun W=>pickK_any c 18 W hc (by omega) (by omega)
 obtain ⟨k,hk⟩:∃k:Nat,pickK c 18=k:=⟨(pickK c 18).toNat,by have:=pickK_lt (c:=c) (n:=18) (by omega);omega⟩
 have hk18:k<18:=by have:=pickK_lt (c:=c) (n:=18) (by omega);omega
 rw [hk] at HP
 clear hk hpr hto
 go_enter Tryz.func10,Tryz.ntmps10
 go_wp2_with fail
 refine (golds_any w).mono ?_
 rintro e w1 ⟨rfl,hB,hk1⟩
 have B1:Hid (Bx w1 w.heap.size (goldC goldL)):=hB
 have K1:Hid (Nw w w1):=hk1
 clear hB hk1
 go_wp2_with fail
 refine (HP.out _).mono ?_
 rintro e wz ⟨rfl,rfl⟩
 clear HP
 by_cases h16:k=16
 ·subst h16
  go_wp2_with fail
  refine (HPR.out _).mono ?_
  rintro e w2 ⟨rfl,k2⟩
  have K2:Hid (Nw w w2):=K1.out.trans k2
  clear k2
  go_wp2
  go_ret
  exact ⟨rfl,K2.out⟩
 ·by_cases h17:k=17
  ·subst h17
   go_wp2_with fail
   refine (HTO.out _).mono ?_
   rintro e w2 ⟨rfl,k2⟩
   have K2:Hid (Nw w w2):=K1.out.trans k2
   clear k2
   go_wp2
   go_ret
   exact ⟨rfl,K2.out⟩
  ·have h15:k<16:=by omega
   obtain ⟨x,hx,g0,g1,g2,g3⟩:=gold_cell k h15
   obtain ⟨hck,hs1,hs2⟩:=gold_at x (List.mem_of_getElem? hx)
   have HG:Hid (∀W,Nw wz W→W.cell? ⟨w.heap.size,k*4,none⟩=some (.string x.1)∧W.cell? ⟨w.heap.size,k*4+1,none⟩=some (.string x.2.1)∧W.cell? ⟨w.heap.size,k*4+2,none⟩=some (.int .i64 x.2.2.1)∧W.cell? ⟨w.heap.size,k*4+3,none⟩=some (.int .i64 x.2.2.2)):=fun W kW=>by
    have hb:=B1.out.kp (by decide) kW (fun h=>h)
    exact ⟨hb.cell g0,hb.cell g1,hb.cell g2,hb.cell g3⟩
   have HCH:Hid (∀W,Calls Tryz.prog 20 #[.string x.1,.string x.2.1] W fun e w'=>e=.returned (.tuple #[.int .i64 x.2.2.1,.int .i64 x.2.2.2])∧Nw W w'):=fun W=>by
    have:=checkB_any x.1 x.2.1 W (by unfold maxLen;omega) (by unfold maxLen;omega)
    rw [hck] at this
    exact this
   clear g0 g1 g2 g3 hck hs1 hs2 hx B1
   have hki:(k:Int)<16:=by omega
   go_wp2
   refine wp_region_held_drew (S:=fun W=>Nw wz W) (by kernel_rfl) ((Kp.refl _ _).drew) (fun hHeld => ?_)
   refine takeL (i:=0) (v := ?_) rfl (by kernel_rfl) (by kernel_rfl) (by kernel_rfl) (fun _ _ _ h=>h) (Or.inl ⟨by rfl,fun W hSW => ?y0⟩) hHeld ?_
   case y0=>(try dsimp only at hSW);go_simp;rw []
   simp only [Act.put,sA,sZ,sS]
   refine takeL (i:=1) (v := ?_) rfl (by kernel_rfl) (by kernel_rfl) (by kernel_rfl) (fun _ _ _ h=>h) (Or.inl ⟨by rfl,fun W hSW => ?y1⟩) hHeld ?_
   case y1=>(try dsimp only at hSW);go_simp;rw []
   simp only [Act.put,sA,sZ,sS]
   refine takeL (i:=2) (v := ?_) rfl (by kernel_rfl) (by kernel_rfl) (by kernel_rfl) (fun _ _ _ h=>h) (Or.inl ⟨by rfl,fun W hSW => ?y2⟩) hHeld ?_
   case y2=>(try dsimp only at hSW);go_simp;rw []
   simp only [Act.put,sA,sZ,sS]
   refine takeL (i:=3) (v := ?_) rfl (by kernel_rfl) (by kernel_rfl) (by kernel_rfl) (fun _ _ _ h=>h) (Or.inl ⟨by rfl,fun W hSW => ?y3⟩) hHeld ?_
   case y3=>(try dsimp only at hSW);go_simp;rw []
   simp only [Act.put,sA,sZ,sS]
   refine takeL (i:=4) (v:=.string x.1) rfl (by kernel_rfl) (by kernel_rfl) (by kernel_rfl) (fun _ _ _ h=>h) (Or.inl ⟨by rfl,fun W hSW => ?y4⟩) hHeld ?_
   case y4=>(try dsimp only at hSW);have hc:=(HG.out W hSW).1;go_simp;rw []
   simp only [Act.put,sA,sZ,sS]
   refine takeL (i:=5) (v := ?_) rfl (by kernel_rfl) (by kernel_rfl) (by kernel_rfl) (fun _ _ _ h=>h) (Or.inl ⟨by rfl,fun W hSW => ?y5⟩) hHeld ?_
   case y5=>(try dsimp only at hSW);go_simp;rw []
   simp only [Act.put,sA,sZ,sS]
   refine takeL (i:=6) (v := ?_) rfl (by kernel_rfl) (by kernel_rfl) (by kernel_rfl) (fun _ _ _ h=>h) (Or.inl ⟨by rfl,fun W hSW => ?y6⟩) hHeld ?_
   case y6=>(try dsimp only at hSW);go_simp;rw []
   simp only [Act.put,sA,sZ,sS]
   refine takeL (i:=7) (v := ?_) rfl (by kernel_rfl) (by kernel_rfl) (by kernel_rfl) (fun _ _ _ h=>h) (Or.inl ⟨by rfl,fun W hSW => ?y7⟩) hHeld ?_
   case y7=>(try dsimp only at hSW);go_simp;rw []
   simp only [Act.put,sA,sZ,sS]
   refine takeL (i:=8) (v := ?_) rfl (by kernel_rfl) (by kernel_rfl) (by kernel_rfl) (fun _ _ _ h=>h) (Or.inl ⟨by rfl,fun W hSW => ?y8⟩) hHeld ?_
   case y8=>(try dsimp only at hSW);go_simp;rw []
   simp only [Act.put,sA,sZ,sS]
   refine takeL (i:=9) (v:=.string x.2.1) rfl (by kernel_rfl) (by kernel_rfl) (by kernel_rfl) (fun _ _ _ h=>h) (Or.inl ⟨by rfl,fun W hSW => ?y9⟩) hHeld ?_
   case y9=>(try dsimp only at hSW);have hc:=(HG.out W hSW).2.1;go_simp;rw []
   simp only [Act.put,sA,sZ,sS]
   refine wpAnyH_ready (rs:=[10]) (by kernel_rfl) (by simp) ?_
   refine consL rfl (fun K hK => ?_) AllReadyH.nil
   go_simp
   refine (HCH.out _).mono ?_
   rintro e2 w2 ⟨rfl,k2⟩
   have k8:Nw wz w2:=((Kp.refl _ _).drew).trans k2
   try dsimp only
   refine hK.out _ _ k8 (fun _ => ?_)
   clear hK K
   try simp only [Act.put,sA,sZ,sS]
   refine takeL (i:=11) (v := ?_) rfl (by kernel_rfl) (by kernel_rfl) (by kernel_rfl) (fun _ _ _ h=>h) (Or.inl ⟨by rfl,fun W hSW => ?y11⟩) k8 ?_
   case y11=>(try dsimp only at hSW);go_simp;rw []
   simp only [Act.put,sA,sZ,sS]
   refine takeL (i:=12) (v := ?_) rfl (by kernel_rfl) (by kernel_rfl) (by kernel_rfl) (fun _ _ _ h=>h) (Or.inl ⟨by rfl,fun W hSW => ?y12⟩) k8 ?_
   case y12=>(try dsimp only at hSW);go_simp;rw []
   simp only [Act.put,sA,sZ,sS]
   refine takeL (i:=13) (v := ?_) rfl (by kernel_rfl) (by kernel_rfl) (by kernel_rfl) (fun _ _ _ h=>h) (Or.inl ⟨by rfl,fun W hSW => ?y13⟩) k8 ?_
   case y13=>(try dsimp only at hSW);go_simp;rw []
   simp only [Act.put,sA,sZ,sS]
   refine takeL (i:=14) (v := ?_) rfl (by kernel_rfl) (by kernel_rfl) (by kernel_rfl) (fun _ _ _ h=>h) (Or.inl ⟨by rfl,fun W hSW => ?y14⟩) k8 ?_
   case y14=>(try dsimp only at hSW);go_simp;rw []
   simp only [Act.put,sA,sZ,sS]
   refine takeL (i:=15) (v := ?_) rfl (by kernel_rfl) (by kernel_rfl) (by kernel_rfl) (fun _ _ _ h=>h) (Or.inl ⟨by rfl,fun W hSW => ?y15⟩) k8 ?_
   case y15=>(try dsimp only at hSW);go_simp;rw []
   simp only [Act.put,sA,sZ,sS]
   refine wpAnyH_done (by kernel_rfl) ?_ _
   have hh:=HG.out _ k8
   obtain ⟨q0,q1,q2,q3⟩:=hh
   have K2:Hid (Nw w w2):=K1.out.trans k8
   clear HG HCH k2 k8 hHeld
   go_wp2
   go_ret
   exact ⟨rfl,K2.out⟩
theorem code_owns {w:World} {base g n c:Nat} {l:List In} (ho:w.ownsRow base 40 14 (.slice (some ⟨g,0,none⟩) n c) n (codeC l)):Code' w g l :=
 ⟨(owns_lt ho).2,fun i x hx=>own_range ho hx⟩
theorem compile_is (sc s:ByteArray) (l:List In) (hsc:sc.size≤maxLen) (hs:s.size≤maxLen) (hp:ProgIs sc s l) (W:World) :
  Calls Tryz.prog 48 #[.string sc,.string s] W fun e w'=>∃g cap,e=.returned (.tuple #[.slice (some ⟨g,0,none⟩) l.length cap,.int .i64 0])∧Code' w' g l∧Nw W w':=by
 obtain ⟨_,hne,_⟩:=hp.v.all
 have h0:0<l.length:=List.length_pos_iff.2 hne
 refine (compileP_any sc s W hsc hs).mono ?_
 rintro e w' ⟨hk,⟨f,p,he,hf,hck⟩ | ⟨p,t,win,L,v,he,hck,⟨x,hx⟩,hkn,ho⟩⟩
 ·exact absurd (hp.ck f p hck) hf
 ·rw [hp.code t win L x hx hkn] at ho
  obtain ⟨g,cap,rfl⟩:=owns_some ho h0
  exact ⟨g,cap,he,code_owns ho,hk⟩
theorem codeP_of {w:World} {g:Nat} {l:List In} (h:Code' w g l):CodeP w (some ⟨g,0,none⟩) l:=fun _=>⟨g,rfl,h⟩
theorem sameLit (l:List In) (hm:l.length≤1000) (g c:Nat) (W:World) (h:Code' W g l) :
  Calls Tryz.prog 49 #[.slice (some ⟨g,0,none⟩) l.length c,.slice (some ⟨W.heap.size,0,none⟩) l.length l.length] (W.alloc (.cells (codeC l).toArray 40)) fun e w'=>e=.returned (.bool true)∧Nw W w':=by
 have ka:Nw W (W.alloc (.cells (codeC l).toArray 40)):=(Kp.refl _ _).alloc _
 refine (sameCodeK _ _ _ _ l _ (codeP_of (h.kp ka (fun h=>h))) (codeP_of (code_new W l _)) (by omega)).mono ?_
 rintro e w' ⟨rfl,k⟩
 exact ⟨rfl,ka.trans k⟩
theorem validLit (l:List In) (hm:l.length≤1000) (a b:Int) (hv:ValidIs l a b) (W:World) :
  Calls Tryz.prog 52 #[.slice (some ⟨W.heap.size,0,none⟩) l.length l.length] (W.alloc (.cells (codeC l).toArray 40)) fun e w'=>e=.returned (.tuple #[.int .i64 a,.int .i64 b])∧Nw W w':=by
 have ka:Nw W (W.alloc (.cells (codeC l).toArray 40)):=(Kp.refl _ _).alloc _
 refine (validS_any _ _ l _ (codeP_of (code_new W l _)) (by unfold maxLen;omega)).mono ?_
 rintro e w' ⟨a',b',rfl,h,k⟩
 obtain ⟨rfl,rfl⟩:=h.uniq hv
 exact ⟨rfl,ka.trans k⟩
theorem trimLit (l o:List In) (hm:l.length≤1000) (h0:0<o.length) (ht:TrimIs l 0 o) (W:World) :
  Calls Tryz.prog 51 #[.slice (some ⟨W.heap.size,0,none⟩) l.length l.length] (W.alloc (.cells (codeC l).toArray 40)) fun e w'=>∃g c,e=.returned (.tuple #[.slice (some ⟨g,0,none⟩) o.length c,.int .i64 0])∧Code' w' g o∧Nw W w':=by
 have ka:Nw W (W.alloc (.cells (codeC l).toArray 40)):=(Kp.refl _ _).alloc _
 refine (trimS_any _ _ l _ (codeP_of (code_new W l _)) (by unfold maxLen;omega)).mono ?_
 rintro e w' ⟨v,f,out,rfl,h,ho,k⟩
 obtain ⟨rfl,rfl⟩:=h.uniq ht
 obtain ⟨g,c,rfl⟩:=owns_some ho h0
 exact ⟨g,c,rfl,code_owns ho,ka.trans k⟩
theorem programs_any (w:World):Calls Tryz.prog 18 #[] w fun e w'=>e=.returned (.bool true)∧Nw w w':=by
 have HC1:Hid (∀W,Calls Tryz.prog 48 #[.string ⟨#[49]⟩,.string ⟨#[97]⟩] W fun e w'=>∃g cap,e=.returned (.tuple #[.slice (some ⟨g,0,none⟩) 4 cap,.int .i64 0])∧Code' w' g kcode1∧Nw W w'):=fun W=>compile_is _ _ kcode1 (by unfold maxLen;decide) (by unfold maxLen;decide) kprog1 W
 have HC2:Hid (∀W,Calls Tryz.prog 48 #[.string ⟨#[48,48]⟩,.string ⟨#[97,42,98]⟩] W fun e w'=>∃g cap,e=.returned (.tuple #[.slice (some ⟨g,0,none⟩) 8 cap,.int .i64 0])∧Code' w' g kcode2∧Nw W w'):=fun W=>compile_is _ _ kcode2 (by unfold maxLen;decide) (by unfold maxLen;decide) kprog2 W
 have HC3:Hid (∀W,Calls Tryz.prog 48 #[.string ⟨#[49,49]⟩,.string ⟨#[97,65,91,120,60,53,93,32,98,91,120,62,65,120,43,49,93,32,64,57]⟩] W fun e w'=>∃g cap,e=.returned (.tuple #[.slice (some ⟨g,0,none⟩) 11 cap,.int .i64 0])∧Code' w' g kcode3∧Nw W w'):=fun W=>compile_is _ _ kcode3 (by unfold maxLen;decide) (by unfold maxLen;decide) kprog3 W
 go_enter Tryz.func18,Tryz.ntmps18
 go_wp2_with fail
 refine (HC1.out _).mono ?_
 rintro e w1 ⟨g1,c1,rfl,hc,kk⟩
 have C1:Hid (Code' w1 g1 kcode1):=hc
 have Kw1:Hid (Nw w w1):=kk
 clear hc kk HC1
 go_wp2_with fail
 refine (sameLit kcode1 (by decide) g1 c1 w1 C1.out).mono ?_
 rintro e w2 ⟨rfl,kk⟩
 have Kw2:Hid (Nw w w2):=Kw1.out.trans kk
 clear kk
 go_wp2_with fail
 refine (HC2.out _).mono ?_
 rintro e w3 ⟨g2,c2,rfl,hc,kk⟩
 have C2:Hid (Code' w3 g2 kcode2):=hc
 have Kw3:Hid (Nw w w3):=Kw2.out.trans kk
 clear hc kk HC2
 go_wp2_with fail
 refine (sameLit kcode2 (by decide) g2 c2 w3 C2.out).mono ?_
 rintro e w4 ⟨rfl,kk⟩
 have Kw4:Hid (Nw w w4):=Kw3.out.trans kk
 clear kk
 go_wp2_with fail
 refine (HC3.out _).mono ?_
 rintro e w5 ⟨g3,c3,rfl,hc,kk⟩
 have C3:Hid (Code' w5 g3 kcode3):=hc
 have Kw5:Hid (Nw w w5):=Kw4.out.trans kk
 clear hc kk HC3
 go_wp2_with fail
 refine (programK_any w5).mono ?_
 rintro e w6 ⟨gp,rfl,hcp,kk⟩
 have CP:Hid (Code' w6 gp kcode3):=hcp
 have C3':Hid (Code' w6 g3 kcode3):=C3.out.kp kk (fun h=>h)
 clear hcp
 have Kw6:Hid (Nw w w6):=Kw5.out.trans kk
 clear kk
 go_wp2_with fail
 refine (sameCodeK (some ⟨g3,0,none⟩) (some ⟨gp,0,none⟩) c3 11 kcode3 w6 (codeP_of C3'.out) (codeP_of CP.out) (by decide)).mono ?_
 rintro e w7 ⟨rfl,kk⟩
 have Kw7:Hid (Nw w w7):=Kw6.out.trans kk
 clear kk
 go_wp2_with fail
 refine (trimLit klT koT (by decide) (by decide) ktrim w7).mono ?_
 rintro e w8 ⟨gt,ct,rfl,hct,kk⟩
 have CT:Hid (Code' w8 gt koT):=hct
 clear hct
 have Kw8:Hid (Nw w w8):=Kw7.out.trans kk
 clear kk
 go_wp2_with fail
 refine (sameLit koT (by decide) gt ct w8 CT.out).mono ?_
 rintro e w9 ⟨rfl,kk⟩
 have Kw9:Hid (Nw w w9):=Kw8.out.trans kk
 clear kk
 go_wp2_with fail
 refine (validLit [⟨4,0,0,tst0⟩] (by decide) 8 0 kvalid1 w9).mono ?_
 rintro e w10 ⟨rfl,kk⟩
 have Kw10:Hid (Nw w w10):=Kw9.out.trans kk
 clear kk
 go_wp2_with fail
 refine (validLit [⟨0,0,0,tst0⟩] (by decide) 7 0 kvalid2 w10).mono ?_
 rintro e w11 ⟨rfl,kk⟩
 have Kw11:Hid (Nw w w11):=Kw10.out.trans kk
 clear kk
 go_wp2
 go_ret
 exact ⟨rfl,Kw11.out⟩
open Value (int)
def evsC (l:List Evt):List Value:=(l.map (fun e=>[int .i64 e.at',.int .i64 e.kind,.int .i64 e.x,.int .i64 e.y,.int .i64 e.z])).flatten
def numsC (l:List Int):List Value:=l.map (fun n=>int .i64 n)
theorem evT_cell:∀i,i<5→∃e n,evsT[i]? = some e∧lvsT[i]? = some n∧(evsC evsT)[i*5]? = some (.int .i64 e.at')∧(evsC evsT)[i*5+1]? = some (.int .i64 e.kind)∧(evsC evsT)[i*5+2]? = some (.int .i64 e.x)∧(evsC evsT)[i*5+3]? = some (.int .i64 e.y)∧(evsC evsT)[i*5+4]? = some (.int .i64 e.z)∧(numsC lvsT)[i]? = some (.int .i64 n):=by
 intro i hi
 rcases (show i=0∨i=1∨i=2∨i=3∨i=4 by omega) with rfl|rfl|rfl|rfl|rfl <;> exact ⟨_,_,rfl,rfl,rfl,rfl,rfl,rfl,rfl,rfl⟩
structure ToldM (sc:List Int) (l:List In) (bs:List Nat) (S:Nat→Rst) (L V:List Value) (w:World) (X g cap:Nat) (bv:Value) (BL BV:Nat) (i:Nat) (wr:World):Prop where
 k:RunK wr X sc 200 200 g cap l bv bs (S i)
 l:Bx wr BL L
 v:Bx wr BV V
 n:Nw w wr
theorem RunK.nw {w w':World} {A:Nat} {sc:List Int} {live found:Int} {g cap:Nat} {l:List In} {bv:Value} {bs:List Nat} {r:Rst} (h:RunK w A sc live found g cap l bv bs r) (k:Nw w w'):RunK w' A sc live found g cap l bv bs r:=by
 obtain ⟨⟨wv,hm⟩,hn,hk⟩:=h
 exact ⟨⟨wv,hm.nw k⟩,hn,hk⟩
theorem ToldM.nw {sc:List Int} {l:List In} {bs:List Nat} {S:Nat→Rst} {L V:List Value} {w:World} {X g cap:Nat} {bv:Value} {BL BV i:Nat} {wr w':World} (hL:0<L.length) (hV:0<V.length) (h:ToldM sc l bs S L V w X g cap bv BL BV i wr) (k:Nw wr w'):ToldM sc l bs S L V w X g cap bv BL BV i w' :=
 ⟨h.k.nw k,h.l.kp hL k (fun h=>h),h.v.kp hV k (fun h=>h),h.n.trans k⟩
theorem mtT_ok (i:Int) (h0:0≤i) (hi:i<5):∀x∈[(⟨1,i,1,-1,-1,-1⟩:Mt)],MtOk x:=by
 intro x hx
 simp at hx
 subst hx
 constructor <;> (unfold In64;constructor <;> (simp only [];omega))
theorem told_of (sc:List Int) (l:List In) (bs:List Nat) (hbs:bs=beginsS l) (S:Nat→Rst) (Wn:Nat→List Mt) (L V:List Value) (hL:L=evsC evsT) (hV:V=numsC lvsT) (w:World)
  (hnew:∀W,Calls Tryz.prog 21 #[.string ⟨#[49,49]⟩,.agg #[.int .i64 200,.int .i64 200],.string ⟨#[97,65,32,46,42,32,98,91,120,62,65,120,93,32,64,53]⟩] W (LdPost W sc 200 200 l))
  (hS0:S 0=⟨[],0,0,false⟩)
  (hS:∀i,i<5→∃e n,evsT[i]? = some e∧lvsT[i]? = some n∧EvOk e∧(S i).count=i∧feedS sc l bs 200 200 (S i) e=(S (i+1),Wn i,0)∧((S (i+1)).ws.length:Int)=n)
  (hW2:Wn 2=[⟨1,2,1,-1,-1,-1⟩]) (hW3:Wn 3=[⟨1,3,1,-1,-1,-1⟩]) (hWn:∀i,¬i=2→¬i=3→Wn i=[]) :
  Calls Tryz.prog 19 #[] w fun e w'=>e=.returned (.bool true)∧Nw w w':=by
 have HNW:Hid (∀W,Calls Tryz.prog 21 #[.string ⟨#[49,49]⟩,.agg #[.int .i64 200,.int .i64 200],.string ⟨#[97,65,32,46,42,32,98,91,120,62,65,120,93,32,64,53]⟩] W (LdPost W sc 200 200 l)):=hnew
 have HS:Hid (∀i,i<5→∃e n,evsT[i]? = some e∧lvsT[i]? = some n∧EvOk e∧(S i).count=i∧feedS sc l bs 200 200 (S i) e=(S (i+1),Wn i,0)∧((S (i+1)).ws.length:Int)=n):=hS
 have HW2:Hid (Wn 2=[⟨1,2,1,-1,-1,-1⟩]):=hW2
 have HW3:Hid (Wn 3=[⟨1,3,1,-1,-1,-1⟩]):=hW3
 have HWN:Hid (∀i,¬i=2→¬i=3→Wn i=[]):=hWn
 have HCE:Hid (∀i,i<5→∃e n,evsT[i]? = some e∧lvsT[i]? = some n∧L[i*5]? = some (.int .i64 e.at')∧L[i*5+1]? = some (.int .i64 e.kind)∧L[i*5+2]? = some (.int .i64 e.x)∧L[i*5+3]? = some (.int .i64 e.y)∧L[i*5+4]? = some (.int .i64 e.z)∧V[i]? = some (.int .i64 n)):=by rw [hL,hV];exact evT_cell
 have HLP:Hid (0<L.length):=by rw [hL];exact (by decide:0<(evsC evsT).length)
 have HVP:Hid (0<V.length):=by rw [hV];exact (by decide:0<(numsC lvsT).length)
 have HLA:Hid (L.toArray=#[.int .i64 0,.int .i64 0,.int .i64 7,.int .i64 0,.int .i64 0,.int .i64 2,.int .i64 0,.int .i64 3,.int .i64 0,.int .i64 0,.int .i64 4,.int .i64 1,.int .i64 5,.int .i64 0,.int .i64 0,.int .i64 6,.int .i64 1,.int .i64 9,.int .i64 0,.int .i64 0,.int .i64 8,.int .i64 1,.int .i64 9,.int .i64 0,.int .i64 0]):=by rw [hL];rfl
 have HVA:Hid (V.toArray=#[.int .i64 2,.int .i64 4,.int .i64 4,.int .i64 2,.int .i64 0]):=by rw [hV];rfl
 clear hnew hS hL hV hW2 hW3 hWn
 go_enter Tryz.func19,Tryz.ntmps19
 go_wp2_with fail
 refine (great_any w).mono ?_
 rintro e1 w1 ⟨rfl,k1⟩
 go_wp2_with fail
 refine (HNW.out w1).mono ?_
 rintro e2 w2 ⟨X,rfl,hnr⟩
 obtain ⟨g,cap,bv,hrk,hg,hbv⟩:=hnr.k
 have HRC:Hid (RunC sc 200 200 l bs):=by rw [hbs];exact hnr.c
 have HX:Hid (w.heap.size≤X):=Nat.le_trans k1.size hnr.x
 have K2:Hid (Nw w w2):=k1.trans hnr.n
 have HRK:Hid (RunK w2 X sc 200 200 g cap l bv bs (S 0)):=by rw [hS0,hbs];exact hrk
 have hXl:X<w2.heap.size:=by obtain ⟨⟨_,h⟩,_,_⟩:=hrk;exact h.lt
 clear hrk hnr hg hbv k1 HNW hS0 hbs
 have HS0:Hid (ToldM sc l bs S L V w X g cap bv w2.heap.size (w2.heap.size+1) 0 ((w2.alloc (.cells L.toArray 42)).alloc (.cells V.toArray 3))):=by
  have ka:Nw w2 ((w2.alloc (.cells L.toArray 42)).alloc (.cells V.toArray 3)):=((Kp.refl _ _).alloc _).alloc _
  refine ⟨HRK.out.nw ka,(Bx.new w2 L 42).kp HLP.out ((Kp.refl (fun _=>False) _).alloc _) (fun h=>h),?_,K2.out.trans ka⟩
  have:=Bx.new (w2.alloc (.cells L.toArray 42)) V 3
  rwa [show (w2.alloc (.cells L.toArray 42)).heap.size=w2.heap.size+1 by simp] at this
 rw [HLA.out,HVA.out] at HS0
 go_wp2
 go_loopg [5] 5 (fun m v5 wr=>∃i:Nat,v5=.int .i64 i∧m=5 - i∧i≤5∧ToldM sc l bs S L V w X g cap bv w2.heap.size (w2.heap.size+1) i wr)
 case atStart=>exact ⟨0,rfl,rfl,by omega,HS0.out⟩
 case round =>
  obtain ⟨i,rfl,hm,hi5,hT⟩:=hrel
  have HM:Hid (_=5 - i):=hm
  have HT:Hid (ToldM sc l bs S L V w X g cap bv w2.heap.size (w2.heap.size+1) i wr):=hT
  clear hm HS0
  by_cases hi:i<5
  ·obtain ⟨e,n,he,hn,c0,c1,c2,c3,c4,hv⟩:=HCE.out i hi
   obtain ⟨e',n',he',hn',heo,hct,hfd,hws⟩:=HS.out i hi
   rw [he] at he'
   rw [hn] at hn'
   simp only [Option.some.injEq] at he' hn'
   subst he' hn'
   have HF:Hid (Calls Tryz.prog 26 #[.pointer (some ⟨X,0,none⟩),.agg #[.int .i64 e.at',.int .i64 e.kind,.int .i64 e.x,.int .i64 e.y,.int .i64 e.z]] wr (FeedPost wr X sc 200 200 g cap l bv bs (S (i+1),Wn i,0))):=by
    have:=feedX_any X sc 200 200 g cap l bv bs (S i) e wr HRC.out hT.k heo (by omega)
    rw [hfd] at this
    exact this
   have d0:=hT.l.cell c0
   have d1:=hT.l.cell c1
   have d2:=hT.l.cell c2
   have d3:=hT.l.cell c3
   have d4:=hT.l.cell c4
   have HN:Hid (V[i]? = some (.int .i64 n)):=hv
   have HWS:Hid (((S (i+1)).ws.length:Int)=n):=hws
   have hil:(i:Int)<5:=by omega
   clear hT c0 c1 c2 c3 c4 hv hws hfd heo hct he hn
   go_wp2_with fail
   refine HF.out.mono ?_
   rintro e3 w3 ⟨v,rfl,hO,hk3,kk⟩
   dsimp only at hO hk3 ⊢
   have HO:Hid (w3.ownsRow wr.heap.size 70 6 v (Wn i).length (mtsC (Wn i))):=hO
   have M3:Hid (ToldM sc l bs S L V w X g cap bv w2.heap.size (w2.heap.size+1) (i+1) w3):=⟨hk3,HT.out.l.kp HLP.out kk (by omega),HT.out.v.kp HVP.out kk (by omega),HT.out.n.trans' kk (by intro b hb e;have:=HX.out;omega)⟩
   obtain ⟨wv,hR⟩:=hk3.m
   obtain ⟨wp,wc,rfl⟩:=ownsLenX hR.wo
   have HLV:Hid (Calls Tryz.prog 53 #[.pointer (some ⟨X,0,none⟩)] w3 fun e w'=>e=.returned (.int .i64 n)∧w'=w3):=by
    have:=liveX_any X (S (i+1)).ws.length wp wc w3 hR.wt
    rw [HWS.out] at this
    exact this
   clear hO hk3 kk hR HF d0 d1 d2 d3 d4 HT HWS
   go_wp2_with fail
   refine HLV.out.mono ?_
   rintro e4 w4 ⟨rfl,rfl⟩
   clear HLV
   by_cases h2:i=2
   ·subst h2
    have ho:=HO.out
    rw [HW2.out] at ho
    obtain ⟨gm,cm,rfl⟩:=owns_some ho (by decide)
    have HS:Hid (∀T,Calls Tryz.prog 54 #[.slice (some ⟨gm,0,none⟩) 1 cm,.slice (some ⟨w4.heap.size,0,none⟩) 1 1] (w4.alloc (.cells #[.int .i64 1,.int .i64 2,.int .i64 1,.int .i64 (-1),.int .i64 (-1),.int .i64 (-1)] T)) fun e w'=>e=.returned (.bool true)∧Nw (w4.alloc (.cells #[.int .i64 1,.int .i64 2,.int .i64 1,.int .i64 (-1),.int .i64 (-1),.int .i64 (-1)] T)) w'):=by
     intro T
     have hgl:=ho.lt gm rfl
     refine sameM_same (some ⟨gm,0,none⟩) (some ⟨w4.heap.size,0,none⟩) cm 1 [⟨1,2,1,-1,-1,-1⟩] _ ?_ ?_ (by simp) (mtT_ok 2 (by omega) (by omega))
     ·intro _
      refine ⟨gm,rfl,by simp;omega,?_⟩
      intro j x hx
      match j,hx with
      | 0,hx =>
       simp only [List.getElem?_cons_zero,Option.some.injEq] at hx
       subst hx
       intro k v hv
       have k1:Nw w4 (w4.alloc (.cells #[.int .i64 1,.int .i64 2,.int .i64 1,.int .i64 (-1),.int .i64 (-1),.int .i64 (-1)] T)):=(Kp.refl _ _).alloc _
       rw [Nat.zero_mul,Nat.zero_add,k1.cell (p:=⟨gm,k,none⟩) hgl.2 (fun h=>h)]
       exact owns_cell ho k hv
      | j+1,hx=>simp at hx
     ·intro _
      refine ⟨w4.heap.size,rfl,by simp,?_⟩
      intro j x hx
      match j,hx with
      | 0,hx =>
       simp only [List.getElem?_cons_zero,Option.some.injEq] at hx
       subst hx
       rw [Nat.zero_mul]
       exact (Bx.new w4 [.int .i64 1,.int .i64 2,.int .i64 1,.int .i64 (-1),.int .i64 (-1),.int .i64 (-1)] T).r
      | j+1,hx=>simp at hx
    clear ho HO
    go_wp2_with fail
    refine (HS.out _).mono ?_
    rintro e5 w5 ⟨rfl,k5⟩
    have M5:Hid (ToldM sc l bs S L V w X g cap bv w2.heap.size (w2.heap.size+1) (2+1) w5):=M3.out.nw HLP.out HVP.out (((Kp.refl _ _).alloc _).trans k5)
    have c5:w5.cell? ⟨w2.heap.size+1,2,none⟩=some (.int .i64 n):=M5.out.v.cell HN.out
    clear k5 HS M3
    go_wp2
    go_roundg (5 - (2+1))
    case measure=>rw [HM.out];omega
    case rel=>exact ⟨2+1,rfl,rfl,by omega,M5.out⟩
   ·by_cases h3:i=3
    ·subst h3
     have ho:=HO.out
     rw [HW3.out] at ho
     obtain ⟨gm,cm,rfl⟩:=owns_some ho (by decide)
     have HS:Hid (∀T,Calls Tryz.prog 54 #[.slice (some ⟨gm,0,none⟩) 1 cm,.slice (some ⟨w4.heap.size,0,none⟩) 1 1] (w4.alloc (.cells #[.int .i64 1,.int .i64 3,.int .i64 1,.int .i64 (-1),.int .i64 (-1),.int .i64 (-1)] T)) fun e w'=>e=.returned (.bool true)∧Nw (w4.alloc (.cells #[.int .i64 1,.int .i64 3,.int .i64 1,.int .i64 (-1),.int .i64 (-1),.int .i64 (-1)] T)) w'):=by
      intro T
      have hgl:=ho.lt gm rfl
      refine sameM_same (some ⟨gm,0,none⟩) (some ⟨w4.heap.size,0,none⟩) cm 1 [⟨1,3,1,-1,-1,-1⟩] _ ?_ ?_ (by simp) (mtT_ok 3 (by omega) (by omega))
      ·intro _
       refine ⟨gm,rfl,by simp;omega,?_⟩
       intro j x hx
       match j,hx with
       | 0,hx =>
        simp only [List.getElem?_cons_zero,Option.some.injEq] at hx
        subst hx
        intro k v hv
        have k1:Nw w4 (w4.alloc (.cells #[.int .i64 1,.int .i64 3,.int .i64 1,.int .i64 (-1),.int .i64 (-1),.int .i64 (-1)] T)):=(Kp.refl _ _).alloc _
        rw [Nat.zero_mul,Nat.zero_add,k1.cell (p:=⟨gm,k,none⟩) hgl.2 (fun h=>h)]
        exact owns_cell ho k hv
       | j+1,hx=>simp at hx
      ·intro _
       refine ⟨w4.heap.size,rfl,by simp,?_⟩
       intro j x hx
       match j,hx with
       | 0,hx =>
        simp only [List.getElem?_cons_zero,Option.some.injEq] at hx
        subst hx
        rw [Nat.zero_mul]
        exact (Bx.new w4 [.int .i64 1,.int .i64 3,.int .i64 1,.int .i64 (-1),.int .i64 (-1),.int .i64 (-1)] T).r
       | j+1,hx=>simp at hx
     clear ho HO
     go_wp2_with fail
     refine (HS.out _).mono ?_
     rintro e5 w5 ⟨rfl,k5⟩
     have M5:Hid (ToldM sc l bs S L V w X g cap bv w2.heap.size (w2.heap.size+1) (3+1) w5):=M3.out.nw HLP.out HVP.out (((Kp.refl _ _).alloc _).trans k5)
     have c5:w5.cell? ⟨w2.heap.size+1,3,none⟩=some (.int .i64 n):=M5.out.v.cell HN.out
     clear k5 HS M3
     go_wp2
     go_roundg (5 - (3+1))
     case measure=>rw [HM.out];omega
     case rel=>exact ⟨3+1,rfl,rfl,by omega,M5.out⟩
    ·have h2':((i:Int) == 2)=false:=eqb_false (by omega)
     have h3':((i:Int) == 3)=false:=eqb_false (by omega)
     have hw:Wn i=[]:=HWN.out i h2 h3
     have ho:=HO.out
     rw [hw] at ho
     obtain ⟨mp,mc,rfl⟩:=ownsLenX ho
     have HS:Hid (Calls Tryz.prog 54 #[.slice mp 0 mc,.slice none 0 0] w4 fun e w'=>e=.returned (.bool true)∧Nw w4 w'):=sameM_same mp none mc 0 [] w4 (fun h=>absurd rfl h) (fun h=>absurd rfl h) (by simp) (fun x hx=>by cases hx)
     clear ho HO
     go_wp2_with fail
     refine HS.out.mono ?_
     rintro e5 w5 ⟨rfl,k5⟩
     have M5:Hid (ToldM sc l bs S L V w X g cap bv w2.heap.size (w2.heap.size+1) (i+1) w5):=M3.out.nw HLP.out HVP.out k5
     have c5:w5.cell? ⟨w2.heap.size+1,i,none⟩=some (.int .i64 n):=M5.out.v.cell HN.out
     clear k5 HS M3
     go_wp2
     go_roundg (5 - (i+1))
     case measure=>rw [HM.out];omega
     case rel=>exact ⟨i+1,by simp,rfl,by omega,M5.out⟩
  ·have ei:i=5:=by omega
   subst ei
   go_wp2
   go_ret
   exact ⟨rfl,HT.out.n⟩
theorem told_any (w:World):Calls Tryz.prog 19 #[] w fun e w'=>e=.returned (.bool true)∧Nw w w' :=
 told_of (bI ⟨#[49,49]⟩) tcode (beginsS tcode) rfl stA wantT _ _ rfl rfl w (fun W=>new_any _ _ 200 200 _ W (by unfold maxLen;decide) (by unfold maxLen;decide) tprog (by omega) (by omega) (by omega) (by omega)) rfl told_at rfl rfl (fun i h2 h3=>by simp [wantT,h2,h3])
section
open Go.ChangeShapes Go.WideShapes Go.ChangeAt Go.RowKit Go.Deep
theorem Tryz.wown:ownKnob Tryz.prog.godebug=none:=by kernel_rfl
theorem Tryz.wb4:Tryz.prog.underlying 4=some .bool:=by kernel_rfl
theorem Tryz.wi3:Tryz.prog.underlying 3=some (.int .i64):=by kernel_rfl
theorem in64_wf {n:Int} (h:(Lit.int .i64 n).wf=true):In64 n:=by
 simp [Lit.wf,IntKind.min,IntKind.max,IntKind.signed,IntKind.bits] at h
 unfold In64
 omega
theorem knownL_lifted (os:Os) (started:os.Started) (H:Type) (enc:TypeId×Value→H) :
  ReturnsInHanded {} Tryz.checked os 10 .any (Rows.knownSpec.pre6 enc Tryz.prog Tryz.f10 Rows.knownRow.domain false) (Rows.knownSpec.post enc Tryz.prog Tryz.f10 false true false false):=by
 refine returnsInHanded_of_change_sized (C:=Tryz.checked) Tryz.wown started (by kernel_rfl) Tryz.func10
  (ChangeSpec.witness6 (enc:=enc) (C:=Tryz.checked) false ⟨#[],#[.int .i64 0],[]⟩ 8 (by kernel_rfl) (by kernel_rfl) (by kernel_rfl) (by kernel_rfl)) ?_
 intro W base args ds gs before hval0 hW _ hsz0 _
 clear hsz0
 have hval:∀(j:Nat) t v,Tryz.f10.params[j]? = some t→args[j]? = some v→Value.okWide Tryz.prog W .any base t v:=hval0
 have hW':=hW
 obtain ⟨p,q,hA0,hV,rfl,hfz,_⟩:=hW
 have hA:DataW.TrodAll enc Tryz.prog W 0 (fun _=>true) true Tryz.f10.params.toList args.toList ds p:=hA0
 rw [Tryz.params10] at hA hval
 obtain ⟨v1,vs1,d1,ds1,p1,q1,hargs,rfl,rfl,h1,k1⟩:=trodAll_cons hA
 obtain ⟨rfl,rfl,rfl⟩:=trodAll_nil k1
 have hargs2:args=#[v1]:=by cases args;simp_all
 subst hargs2
 obtain ⟨rfl,rfl⟩:=trodVars_none hV
 obtain ⟨n1,rfl,rfl,rfl,w1⟩:=open_int Tryz.wi3 (hval 0 3 v1 rfl rfl) h1
 clear hA0 hval0 hA hval
 refine (knownL_of n1 W (in64_wf w1) programs_any told_any).mono fun e W' ⟨he,hk⟩ => ?_
 subst he
 have hb:Below W.heap.size W W':=hk.toBelow (Nat.le_refl _) (fun _ h=>False.elim h)
 exact ⟨_,rfl,⟨_,_,_,[],_,[],hW',trodAll_mk1 (shut_bool Tryz.wb4 true),
  trodAll_mk1 (shut_int Tryz.wi3 w1),rfl,hb.frame _,fun h=>by cases h⟩⟩
theorem known_holds:Rows.KnownSaid :=
 OpenClaim.holds_of_wide 10 Tryz.f10 rfl rfl rfl rfl rfl rfl rfl ⟨rfl,rfl,rfl,rfl,rfl⟩ rfl rfl rfl rfl rfl (by kernel_rfl) Tryz.func10 kf_closed
  (of_decide_eq_true (by kernel_rfl)) (by unfold Func.isWrapper;first|(rw [if_pos (by decide +kernel)];kernel_rfl)|(rw [if_neg (by decide +kernel)];exact ⟨rfl,rfl⟩))
  (fun os started H enc _=>knownL_lifted os started H enc)
#print axioms known_holds
end
end Go.Proofs.YtcboiapggnmpfaaGreat
