import Derived.Test.YtcboiapggnmpfaaGreatDoorQbb
import Derived.Test.YtcboiapggnmpfaaGreatDoorQav
import Derived.DeepKeys
namespace Go.Proofs.YtcboiapggnmpfaaGreatDoor
set_option maxRecDepth 100000
set_option maxHeartbeats 4000000
set_option linter.unusedSimpArgs false
set_option linter.unusedVariables false
open Go.RowKit
structure EvOk (e:Evt):Prop where
 t:In64 e.at'
 k:In64 e.kind
 x:In64 e.x
 y:In64 e.y
 z:In64 e.z
structure ThrOk (t:Thr):Prop where
 a:In64 t.at'
 f:In64 t.first
 b:In64 t.began
 h:∀i,In64 (t.hd i).n∧EvOk (t.hd i).e
theorem ev0_ok:EvOk ev0:=by constructor <;> decide
theorem evF_ok {e:Evt} (h:EvOk e) (f:Int):In64 (evF e f):=by
 unfold evF
 split
 ·exact h.t
 split
 ·exact h.x
 split
 ·exact h.y
 split
 ·exact h.z
 decide
theorem heldS_ok {hand:Nmb} {t:Thr} (hh:In64 hand.n∧EvOk hand.e) (ht:ThrOk t) (p:Int) (anew:Nat):In64 (heldS hand t p anew).n∧EvOk (heldS hand t p anew).e:=by
 unfold heldS
 split
 ·exact hh
 split
 ·exact ⟨by decide,ev0_ok⟩
 ·exact ht.h _
theorem valS_ok {hand:Nmb} {t:Thr} (hh:In64 hand.n∧EvOk hand.e) (ht:ThrOk t) (anew:Nat) {x:Tm} (hx:In64 x.num):In64 (valS hand t anew x).1:=by
 unfold valS
 split
 ·exact hx
 split
 ·exact evF_ok hh.2 _
 ·exact evF_ok (heldS_ok hh ht _ _).2 _
def TmOk (x:Tm):Prop:=(0≤x.of∧x.of≤100)∧In64 x.num
theorem rightSide_any (R:Nat) (hand:Nmb) (t:Thr) (x:Tst) (anew:Nat) (ha:anew<16) (hok:In64 hand.n∧EvOk hand.e) (htk:ThrOk t) (hr:TmOk x.right) (hm:TmOk x.more) (w:World) (hh:w.rangeAt R 1 (nmC hand)) (hf:w.rangeAt R 7 (thC t)) :
  Calls Tryz.prog 123 #[.pointer (some ⟨R,0,none⟩),tstVD x,.int .i64 (anew:Int)] w (ValPost (rsideS hand t anew x) w):=by
 have hRl:R<w.heap.size:=range_lt hh (by simp [nmC])
 have HVL:Hid (∀(y:Tm) W,TmOk y→Nw w W→Calls Tryz.prog 122 #[.pointer (some ⟨R,0,none⟩),.agg #[.int .i64 y.of,.int .i64 y.field,.int .i64 y.num],.int .i64 (anew:Int)] W (ValPost (valS hand t anew y) W)):=fun y W hy kW=>valueS_any R hand t y anew ha hy.1 W (range_kp hh hRl kW (fun h=>h)) (range_kp hf hRl kW (fun h=>h))
 have HI1:In64 (valS hand t anew x.right).1:=valS_ok hok htk anew hr.2
 have HI2:In64 (valS hand t anew x.more).1:=valS_ok hok htk anew hm.2
 obtain ⟨⟨l0,l1,l2⟩,rl,⟨r0,r1,r2⟩,ar,⟨m0,m1,m2⟩⟩:=x
 have HV1:Hid (∀W,Nw w W→Calls Tryz.prog 122 #[.pointer (some ⟨R,0,none⟩),.agg #[.int .i64 r0,.int .i64 r1,.int .i64 r2],.int .i64 (anew:Int)] W (ValPost (valS hand t anew ⟨r0,r1,r2⟩) W)):=fun W kW=>HVL.out ⟨r0,r1,r2⟩ W hr kW
 have HV2:Hid (∀W,Nw w W→Calls Tryz.prog 122 #[.pointer (some ⟨R,0,none⟩),.agg #[.int .i64 m0,.int .i64 m1,.int .i64 m2],.int .i64 (anew:Int)] W (ValPost (valS hand t anew ⟨m0,m1,m2⟩) W)):=fun W kW=>HVL.out ⟨m0,m1,m2⟩ W hm kW
 have HRS:Hid (rsideS hand t anew ⟨⟨l0,l1,l2⟩,rl,⟨r0,r1,r2⟩,ar,⟨m0,m1,m2⟩⟩=if (valS hand t anew ⟨r0,r1,r2⟩).2=true∧(valS hand t anew ⟨m0,m1,m2⟩).2=true then arS ar (valS hand t anew ⟨r0,r1,r2⟩).1 (valS hand t anew ⟨m0,m1,m2⟩).1 else (0,false)):=rfl
 generalize rsideS hand t anew ⟨⟨l0,l1,l2⟩,rl,⟨r0,r1,r2⟩,ar,⟨m0,m1,m2⟩⟩=rs at *
 unfold tstVD
 simp only at *
 generalize valS hand t anew ⟨r0,r1,r2⟩=p1 at *
 generalize valS hand t anew ⟨m0,m1,m2⟩=p2 at *
 obtain ⟨v1,b1⟩:=p1
 obtain ⟨v2,b2⟩:=p2
 simp only at *
 have HBX:Hid (∀W,Nw (w.alloc (.cells #[.int .i64 l0,.int .i64 l1,.int .i64 l2,.int .i64 rl,.int .i64 r0,.int .i64 r1,.int .i64 r2,.int .i64 ar,.int .i64 m0,.int .i64 m1,.int .i64 m2] 118)) W→W.cell? ⟨w.heap.size,7,none⟩=some (.int .i64 ar)∧W.cell? ⟨w.heap.size,8,none⟩=some (.int .i64 m0)∧W.cell? ⟨w.heap.size,9,none⟩=some (.int .i64 m1)∧W.cell? ⟨w.heap.size,10,none⟩=some (.int .i64 m2)∧w.heap.size<W.heap.size):=by
  intro W kW
  have hb:=(Bx.new w [.int .i64 l0,.int .i64 l1,.int .i64 l2,.int .i64 rl,.int .i64 r0,.int .i64 r1,.int .i64 r2,.int .i64 ar,.int .i64 m0,.int .i64 m1,.int .i64 m2] 118).kp (by simp) kW (fun h=>h)
  exact ⟨hb.cell (k:=7) rfl,hb.cell (k:=8) rfl,hb.cell (k:=9) rfl,hb.cell (k:=10) rfl,hb.lt (by simp)⟩
 have HK:Hid (Nw w (w.alloc (.cells #[.int .i64 l0,.int .i64 l1,.int .i64 l2,.int .i64 rl,.int .i64 r0,.int .i64 r1,.int .i64 r2,.int .i64 ar,.int .i64 m0,.int .i64 m1,.int .i64 m2] 118))):=(Kp.refl _ w).alloc _
 have HSM:Hid (∀W,Calls Tryz.prog 126 #[.int .i64 v1,.int .i64 v2] W fun e w'=>e=.returned (.tuple #[.int .i64 (wrap64 (v1+v2)),.bool (decide (In64 (v1+v2)))])∧w'=W):=fun W=>sum_any v1 v2 HI1 HI2 W
 have HDF:Hid (∀W,Calls Tryz.prog 127 #[.int .i64 v1,.int .i64 v2] W fun e w'=>e=.returned (.tuple #[.int .i64 (wrap64 (v1 - v2)),.bool (decide (In64 (v1 - v2)))])∧w'=W):=fun W=>diff_any v1 v2 HI1 HI2 W
 have HPR:Hid (∀W,Calls Tryz.prog 128 #[.int .i64 v1,.int .i64 v2] W fun e w'=>e=.returned (.tuple #[.int .i64 (wrap64 (v1*v2)),.bool (decide (In64 (v1*v2)))])∧Nw W w'):=fun W=>by
  refine (prod_any v1 v2 HI1 HI2 W).mono ?_
  rintro e w' ⟨h1,h2⟩
  obtain ⟨n,rfl⟩:=h2
  exact ⟨h1,(Kp.refl _ _).drewN n⟩
 clear hh hf hr hm hok htk ha HI1 HI2 HVL
 go_enter Tryz.func123,Tryz.ntmps123
 go_wp2_with fail
 refine (HV1.out _ HK.out).mono ?_
 rintro e1 w1 ⟨rfl,k1⟩
 obtain ⟨c7,c8,c9,c10,hwl⟩:=HBX.out w1 k1
 have K1:Hid (Nw (w.alloc (.cells #[.int .i64 l0,.int .i64 l1,.int .i64 l2,.int .i64 rl,.int .i64 r0,.int .i64 r1,.int .i64 r2,.int .i64 ar,.int .i64 m0,.int .i64 m1,.int .i64 m2] 118)) w1):=k1
 clear k1
 generalize (w.alloc (.cells #[.int .i64 l0,.int .i64 l1,.int .i64 l2,.int .i64 rl,.int .i64 r0,.int .i64 r1,.int .i64 r2,.int .i64 ar,.int .i64 m0,.int .i64 m1,.int .i64 m2] 118))=W0 at *
 go_wp2_with fail
 refine (HV2.out _ (HK.out.trans K1.out)).mono ?_
 rintro e2 w2 ⟨rfl,k2⟩
 clear c7 c8 c9 c10 hwl
 obtain ⟨c7,c8,c9,c10,hwl⟩:=HBX.out w2 (K1.out.trans k2)
 have K2:Hid (Nw w w2):=HK.out.trans (K1.out.trans k2)
 clear k2 c8 c9 c10
 cases b1 with
 | false =>
  rw [if_neg (by simp)] at HRS
  go_wp2
  go_ret2
  exact ⟨by rw [HRS.out];rfl,K2.out⟩
 | true =>
  cases b2 with
  | false =>
   rw [if_neg (by simp)] at HRS
   go_wp2
   go_ret2
   exact ⟨by rw [HRS.out];rfl,K2.out⟩
  | true =>
   rw [if_pos ⟨rfl,rfl⟩] at HRS
   unfold arS at HRS
   by_cases a0:ar=0
   ·subst a0
    rw [if_pos rfl] at HRS
    go_wp2
    go_ret2
    exact ⟨by rw [HRS.out];rfl,K2.out⟩
   ·rw [if_neg a0] at HRS
    have g0:(ar == 0)=false:=by simpa using a0
    by_cases a1:ar=1
    ·subst a1
     rw [if_pos rfl] at HRS
     go_wp2_with fail
     refine (HSM.out _).mono ?_
     rintro e3 w3 ⟨rfl,rfl⟩
     generalize wrap64 (v1+v2)=vv at *
     generalize decide (In64 (v1+v2))=bb at *
     go_wp2
     go_ret2
     exact ⟨by rw [HRS.out];rfl,K2.out⟩
    ·rw [if_neg a1] at HRS
     have g1:(ar == 1)=false:=by simpa using a1
     by_cases a2:ar=2
     ·subst a2
      rw [if_pos rfl] at HRS
      go_wp2_with fail
      refine (HDF.out _).mono ?_
      rintro e3 w3 ⟨rfl,rfl⟩
      generalize wrap64 (v1 - v2)=vv at *
      generalize decide (In64 (v1 - v2))=bb at *
      go_wp2
      go_ret2
      exact ⟨by rw [HRS.out];rfl,K2.out⟩
     ·rw [if_neg a2] at HRS
      have g2:(ar == 2)=false:=by simpa using a2
      by_cases a3:ar=3
      ·subst a3
       rw [if_pos rfl] at HRS
       go_wp2_with fail
       refine (HPR.out _).mono ?_
       rintro e3 w3 ⟨rfl,k3⟩
       have K3:Hid (Nw w w3):=K2.out.trans k3
       clear k3
       generalize wrap64 (v1*v2)=vv at *
       generalize decide (In64 (v1*v2))=bb at *
       go_wp2
       go_ret2
       exact ⟨by rw [HRS.out];rfl,K3.out⟩
      ·rw [if_neg a3] at HRS
       have g3:(ar == 3)=false:=by simpa using a3
       clear a0 a1 a2 a3
       go_wp2
       go_ret2
       exact ⟨by rw [HRS.out];rfl,K2.out⟩
def SoPost (b:Bool) (w:World) (e:Ending) (w':World):Prop:=e=.returned (.bool b)∧Nw w w'
theorem isSo_any (R:Nat) (hand:Nmb) (t:Thr) (x:Tst) (anew:Nat) (ha:anew<16) (hok:In64 hand.n∧EvOk hand.e) (htk:ThrOk t) (hl:TmOk x.left) (hr:TmOk x.right) (hm:TmOk x.more) (w:World) (hh:w.rangeAt R 1 (nmC hand)) (hf:w.rangeAt R 7 (thC t)) :
  Calls Tryz.prog 114 #[.pointer (some ⟨R,0,none⟩),tstVD x,.int .i64 (anew:Int)] w (SoPost (soS hand t anew x) w):=by
 have hRl:R<w.heap.size:=range_lt hh (by simp [nmC])
 have HRS:Hid (∀W,Nw w W→Calls Tryz.prog 123 #[.pointer (some ⟨R,0,none⟩),tstVD x,.int .i64 (anew:Int)] W (ValPost (rsideS hand t anew x) W)):=fun W kW=>rightSide_any R hand t x anew ha hok htk hr hm W (range_kp hh hRl kW (fun h=>h)) (range_kp hf hRl kW (fun h=>h))
 have HVL:Hid (∀W,Nw w W→Calls Tryz.prog 122 #[.pointer (some ⟨R,0,none⟩),.agg #[.int .i64 x.left.of,.int .i64 x.left.field,.int .i64 x.left.num],.int .i64 (anew:Int)] W (ValPost (valS hand t anew x.left) W)):=fun W kW=>valueS_any R hand t x.left anew ha hl.1 W (range_kp hh hRl kW (fun h=>h)) (range_kp hf hRl kW (fun h=>h))
 have HSO:Hid (soS hand t anew x=((valS hand t anew x.left).2&&(rsideS hand t anew x).2&&relS x.rel (valS hand t anew x.left).1 (rsideS hand t anew x).1)):=rfl
 generalize soS hand t anew x=so at *
 generalize valS hand t anew x.left=p1 at *
 generalize rsideS hand t anew x=p2 at *
 obtain ⟨⟨l0,l1,l2⟩,rl,⟨r0,r1,r2⟩,ar,⟨m0,m1,m2⟩⟩:=x
 obtain ⟨v1,b1⟩:=p1
 obtain ⟨v2,b2⟩:=p2
 unfold tstVD at *
 simp only at *
 have HBX:Hid (∀W,Nw (w.alloc (.cells #[.int .i64 l0,.int .i64 l1,.int .i64 l2,.int .i64 rl,.int .i64 r0,.int .i64 r1,.int .i64 r2,.int .i64 ar,.int .i64 m0,.int .i64 m1,.int .i64 m2] 118)) W→W.cell? ⟨w.heap.size,0,none⟩=some (.int .i64 l0)∧W.cell? ⟨w.heap.size,1,none⟩=some (.int .i64 l1)∧W.cell? ⟨w.heap.size,2,none⟩=some (.int .i64 l2)∧W.cell? ⟨w.heap.size,3,none⟩=some (.int .i64 rl)∧W.cell? ⟨w.heap.size,4,none⟩=some (.int .i64 r0)∧W.cell? ⟨w.heap.size,5,none⟩=some (.int .i64 r1)∧W.cell? ⟨w.heap.size,6,none⟩=some (.int .i64 r2)∧W.cell? ⟨w.heap.size,7,none⟩=some (.int .i64 ar)∧W.cell? ⟨w.heap.size,8,none⟩=some (.int .i64 m0)∧W.cell? ⟨w.heap.size,9,none⟩=some (.int .i64 m1)∧W.cell? ⟨w.heap.size,10,none⟩=some (.int .i64 m2)∧w.heap.size<W.heap.size):=by
  intro W kW
  have hb:=(Bx.new w [.int .i64 l0,.int .i64 l1,.int .i64 l2,.int .i64 rl,.int .i64 r0,.int .i64 r1,.int .i64 r2,.int .i64 ar,.int .i64 m0,.int .i64 m1,.int .i64 m2] 118).kp (by simp) kW (fun h=>h)
  exact ⟨hb.cell (k:=0) rfl,hb.cell (k:=1) rfl,hb.cell (k:=2) rfl,hb.cell (k:=3) rfl,hb.cell (k:=4) rfl,hb.cell (k:=5) rfl,hb.cell (k:=6) rfl,hb.cell (k:=7) rfl,hb.cell (k:=8) rfl,hb.cell (k:=9) rfl,hb.cell (k:=10) rfl,hb.lt (by simp)⟩
 have HK:Hid (Nw w (w.alloc (.cells #[.int .i64 l0,.int .i64 l1,.int .i64 l2,.int .i64 rl,.int .i64 r0,.int .i64 r1,.int .i64 r2,.int .i64 ar,.int .i64 m0,.int .i64 m1,.int .i64 m2] 118))):=(Kp.refl _ w).alloc _
 clear hh hf hl hr hm hok htk ha
 go_enter Tryz.func114,Tryz.ntmps114
 go_wp2_with fail
 refine (HVL.out _ HK.out).mono ?_
 rintro e1 w1 ⟨rfl,k1⟩
 obtain ⟨c0,c1,c2,c3,c4,c5,c6,c7,c8,c9,c10,hwl⟩:=HBX.out w1 k1
 have K1:Hid (Nw (w.alloc (.cells #[.int .i64 l0,.int .i64 l1,.int .i64 l2,.int .i64 rl,.int .i64 r0,.int .i64 r1,.int .i64 r2,.int .i64 ar,.int .i64 m0,.int .i64 m1,.int .i64 m2] 118)) w1):=k1
 clear k1 HVL
 generalize (w.alloc (.cells #[.int .i64 l0,.int .i64 l1,.int .i64 l2,.int .i64 rl,.int .i64 r0,.int .i64 r1,.int .i64 r2,.int .i64 ar,.int .i64 m0,.int .i64 m1,.int .i64 m2] 118))=W0 at *
 go_wp2_with fail
 refine (HRS.out _ (HK.out.trans K1.out)).mono ?_
 rintro e2 w2 ⟨rfl,k2⟩
 clear c0 c1 c2 c3 c4 c5 c6 c7 c8 c9 c10 hwl
 obtain ⟨c0,c1,c2,c3,c4,c5,c6,c7,c8,c9,c10,hwl⟩:=HBX.out w2 (K1.out.trans k2)
 have K2:Hid (Nw w w2):=HK.out.trans (K1.out.trans k2)
 clear k2 c0 c1 c2 c4 c5 c6 c7 c8 c9 c10 HRS
 cases b1 with
 | false =>
  have HS:Hid (so=false):=by show _=_;rw [HSO.out];rfl
  clear HSO
  go_wp2
  go_ret
  exact ⟨by rw [HS.out];rfl,K2.out⟩
 | true =>
  cases b2 with
  | false =>
   have HS:Hid (so=false):=by show _=_;rw [HSO.out];rfl
   clear HSO
   go_wp2
   go_ret
   exact ⟨by rw [HS.out];rfl,K2.out⟩
  | true =>
   have HS:Hid (so=relS rl v1 v2):=by show _=_;rw [HSO.out];simp
   clear HSO
   unfold relS at HS
   by_cases a0:rl=0
   ·subst a0
    rw [if_pos rfl] at HS
    go_wp2
    go_ret
    exact ⟨by rw [HS.out];rfl,K2.out⟩
   ·rw [if_neg a0] at HS
    have g0:(rl == 0)=false:=by simpa using a0
    by_cases a1:rl=1
    ·subst a1
     rw [if_pos rfl] at HS
     go_wp2
     go_ret
     exact ⟨by rw [HS.out];rfl,K2.out⟩
    ·rw [if_neg a1] at HS
     have g1:(rl == 1)=false:=by simpa using a1
     by_cases a2:rl=2
     ·subst a2
      rw [if_pos rfl] at HS
      have HS2:Hid (so=(v1 == v2)):=by show _=_;rw [HS.out];by_cases h:v1=v2 <;> simp [h]
      clear HS
      go_wp2
      go_ret
      exact ⟨by rw [HS2.out];rfl,K2.out⟩
     ·rw [if_neg a2] at HS
      have g2:(rl == 2)=false:=by simpa using a2
      by_cases a3:rl=3
      ·subst a3
       rw [if_pos rfl] at HS
       have HS2:Hid (so=(v1 != v2)):=by show _=_;rw [HS.out];by_cases h:v1=v2 <;> simp [h]
       clear HS
       go_wp2
       go_ret
       exact ⟨by rw [HS2.out];rfl,K2.out⟩
      ·rw [if_neg a3] at HS
       have g3:(rl == 3)=false:=by simpa using a3
       clear a0 a1 a2 a3
       go_wp2
       go_ret
       exact ⟨by rw [HS.out];rfl,K2.out⟩
def dFields:TypeDesc→Option (List (TypeId×Nat))
 | .struct fs=>if fs.all (·.name != "_")=true then some (fs.toList.map fun f=>(f.type,f.offset)) else none
 | _=>none
theorem kl_struct {P:Program} {D:Nat} {t:TypeId} {l:List (TypeId×Nat)} {cs:List Value} (hu:(P.underlying t).bind dFields=some l) (hc:cs.length=P.cellsOf t) :
  P.keyLits (D+1) t cs=(l.mapM fun p=>P.keyLits D p.1 ((cs.drop p.2).take (P.cellsOf p.1))).map List.flatten:=by
 cases h:P.underlying t with
 | none=>rw [h] at hu;cases hu
 | some d =>
  rw [h] at hu
  cases d <;> simp only [Option.bind_some,dFields,reduceCtorEq] at hu
  rename_i fs
  split at hu
  ·rename_i hn
   simp only [Option.some.injEq] at hu
   subst hu
   conv=>lhs;unfold Program.keyLits;rw [h]
   simp only
   rw [if_pos ⟨hc,hn⟩,List.mapM_map]
   rfl
  ·cases hu
theorem kl_int {P:Program} {D:Nat} {t:TypeId} {x:Int} (hu:P.underlying t=some (.int .i64)) (hx:In64 x):P.keyLits (D+1) t [.int .i64 x]=some [.int .i64 x]:=by
 have hw:(Lit.int .i64 x).wf=true:=by
  simp only [Lit.wf,Bool.and_eq_true,decide_eq_true_eq]
  exact ⟨hx.1,hx.2⟩
 unfold Program.keyLits
 rw [hu]
 simp [hw]
theorem Tryz.kuInt:Tryz.prog.underlying 3=some (.int .i64):=by kernel_rfl
theorem Tryz.kuEv:(Tryz.prog.underlying 32).bind dFields=some [(3,0),(3,1),(3,2),(3,3),(3,4)]:=by kernel_rfl
theorem Tryz.kuNm:(Tryz.prog.underlying 126).bind dFields=some [(3,0),(32,1)]:=by kernel_rfl
theorem Tryz.kcInt:Tryz.prog.cellsOf 3=1:=by kernel_rfl
theorem Tryz.kcEv:Tryz.prog.cellsOf 32=5:=by kernel_rfl
theorem Tryz.kcNm:Tryz.prog.cellsOf 126=6:=by kernel_rfl
theorem Tryz.kcTh:Tryz.prog.cellsOf 129=27:=by kernel_rfl
def evL (e:Evt):List Lit:=[.int .i64 e.at',.int .i64 e.kind,.int .i64 e.x,.int .i64 e.y,.int .i64 e.z]
theorem kl_ev {e:Evt} (h:EvOk e) (D:Nat):Tryz.prog.keyLits (D+2) 32 [.int .i64 e.at',.int .i64 e.kind,.int .i64 e.x,.int .i64 e.y,.int .i64 e.z]=some (evL e):=by
 rw [kl_struct (D:=D+1) Tryz.kuEv (by rw [Tryz.kcEv];rfl)]
 simp [Tryz.kcInt,kl_int Tryz.kuInt h.t,kl_int Tryz.kuInt h.k,kl_int Tryz.kuInt h.x,kl_int Tryz.kuInt h.y,kl_int Tryz.kuInt h.z,evL]
def nmbL (x:Nmb):List Lit:=.int .i64 x.n::evL x.e
theorem kl_nm {x:Nmb} (h1:In64 x.n) (h:EvOk x.e) (D:Nat):Tryz.prog.keyLits (D+3) 126 (nmC x)=some (nmbL x):=by
 rw [kl_struct (D:=D+2) Tryz.kuNm (by rw [Tryz.kcNm];rfl)]
 simp [Tryz.kcInt,Tryz.kcEv,kl_int Tryz.kuInt h1,nmC,kl_ev h,nmbL]
theorem kl_array {P:Program} {D n:Nat} {t e:TypeId} {cs:List Value} (hu:P.underlying t=some (.array n e)) (hc:cs.length=P.cellsOf t) :
  P.keyLits (D+1) t cs=((List.range n).mapM fun i=>P.keyLits D e ((cs.drop (i*P.cellsOf e)).take (P.cellsOf e))).map List.flatten:=by
 conv=>lhs;unfold Program.keyLits;rw [hu]
 simp only
 rw [if_pos hc]
theorem Tryz.kuTh:(Tryz.prog.underlying 129).bind dFields=some [(3,0),(3,1),(3,2),(127,3)]:=by kernel_rfl
theorem Tryz.kuAr:Tryz.prog.underlying 127=some (.array 4 126):=by kernel_rfl
theorem Tryz.kcAr:Tryz.prog.cellsOf 127=24:=by kernel_rfl
def thL (t:Thr):List Lit:=[.int .i64 t.at',.int .i64 t.first,.int .i64 t.began]++(nmbL t.h0++(nmbL t.h1++(nmbL t.h2++nmbL t.h3)))
theorem kl_th {t:Thr} (h:ThrOk t) (D:Nat):Tryz.prog.keyLits (D+5) 129 (thC t)=some (thL t):=by
 have a0:=kl_nm (h.h 0).1 (h.h 0).2 D
 have a1:=kl_nm (h.h 1).1 (h.h 1).2 D
 have a2:=kl_nm (h.h 2).1 (h.h 2).2 D
 have a3:=kl_nm (h.h 3).1 (h.h 3).2 D
 have e4:Tryz.prog.keyLits (D+4) 127 ((thC t).drop 3)=some (nmbL t.h0++(nmbL t.h1++(nmbL t.h2++nmbL t.h3))):=by
  rw [kl_array (D:=D+3) Tryz.kuAr (by rw [Tryz.kcAr,List.length_drop,thC_len])]
  have r0:((thC t).drop 3).take 6=nmC t.h0:=rfl
  have r1:(((thC t).drop 3).drop 6).take 6=nmC t.h1:=rfl
  have r2:(((thC t).drop 3).drop 12).take 6=nmC t.h2:=rfl
  have r3:(((thC t).drop 3).drop 18).take 6=nmC t.h3:=rfl
  have er:List.range 4=[0,1,2,3]:=rfl
  rw [er,Tryz.kcNm]
  generalize (thC t).drop 3=X at *
  simp only [List.mapM_cons,List.mapM_nil,Nat.zero_mul,Nat.one_mul,List.drop_zero,r0,r1,r2,r3,Nat.reduceMul]
  simp only [Thr.hd] at a0 a1 a2 a3
  rw [a0,a1,a2,a3]
  simp
 rw [kl_struct (D:=D+4) Tryz.kuTh (by rw [Tryz.kcTh,thC_len])]
 have r0:((thC t).drop 0).take 1=[.int .i64 t.at']:=rfl
 have r1:((thC t).drop 1).take 1=[.int .i64 t.first]:=rfl
 have r2:((thC t).drop 2).take 1=[.int .i64 t.began]:=rfl
 have r3:((thC t).drop 3).take 24=(thC t).drop 3:=rfl
 generalize thC t=X at *
 simp only [List.mapM_cons,List.mapM_nil,Tryz.kcInt,Tryz.kcAr,r0,r1,r2,r3,e4,kl_int Tryz.kuInt h.a,kl_int Tryz.kuInt h.f,kl_int Tryz.kuInt h.b]
 simp [thL]
theorem thL_inj {u t:Thr}:thL u=thL t↔u=t:=by
 constructor
 ·intro h
  obtain ⟨ua,uf,ub,⟨un0,⟨u00,u01,u02,u03,u04⟩⟩,⟨un1,⟨u10,u11,u12,u13,u14⟩⟩,⟨un2,⟨u20,u21,u22,u23,u24⟩⟩,⟨un3,⟨u30,u31,u32,u33,u34⟩⟩⟩:=u
  obtain ⟨ta,tf,tb,⟨tn0,⟨t00,t01,t02,t03,t04⟩⟩,⟨tn1,⟨t10,t11,t12,t13,t14⟩⟩,⟨tn2,⟨t20,t21,t22,t23,t24⟩⟩,⟨tn3,⟨t30,t31,t32,t33,t34⟩⟩⟩:=t
  simp only [thL,nmbL,evL,List.cons_append,List.nil_append,List.cons.injEq,Lit.int.injEq,true_and,and_true] at h
  simp only [Thr.mk.injEq,Nmb.mk.injEq,Evt.mk.injEq]
  simp only [h,and_self]
 ·intro h;rw [h]
theorem Tryz.ktTh:Tryz.prog.keyTypeAt 5 129=true:=by kernel_rfl
theorem Tryz.egTh:Tryz.prog.eqGuardType Tryz.prog.depth 129=false:=by kernel_rfl
theorem formed_of {P:Program} {t:TypeId} {d:TypeDesc} (hu:P.underlying t=some d) (hd:d.isRow=true) {cs:Array Value} (hc:cs.size=P.cellsOf t):(Value.agg cs).formed P t=true:=by
 unfold Value.formed
 simp only [hu,hc]
 cases d <;> simp_all [TypeDesc.isRow]
theorem formed_th (t:Thr):(Value.agg (thC t).toArray).formed Tryz.prog 129=true:=by
 obtain ⟨dd,hu,hd⟩:=Option.map_eq_some_iff.1 Tryz.rowTh
 exact formed_of hu hd (by rw [Tryz.kcTh,List.size_toArray,thC_len])
theorem equal_th {u t:Thr} (hu:ThrOk u) (ht:ThrOk t) (w:World):(Op.equal 129 (.agg (thC u).toArray) (.agg (thC t).toArray)).run Tryz.prog w=.ok (decide (u=t)) w:=by
 obtain ⟨r,hr,hiff⟩:=run_equalIn_deep 9995 5 129 Tryz.ktTh w 5 5 (.agg (thC u).toArray) (.agg (thC t).toArray) (thL u) (thL t) (formed_th u) (formed_th t) (kl_th hu 0) (kl_th ht 0)
 have e:r=decide (u=t):=by
  rw [Bool.eq_iff_iff,hiff,thL_inj]
  simp
 rw [←e]
 exact hr
theorem exec_eql {o:Oper} {x y:Operand} {ty:TypeId} (ho:o.op=.binOp .eql 129 x y ty) {a:Act} {u t:Thr} (hx:a.eval x=.agg (thC u).toArray) (hy:a.eval y=.agg (thC t).toArray) (hu:ThrOk u) (ht:ThrOk t) (w:World) :
  (execOp a.eval o).run Tryz.prog w=.ok (.value (.bool (decide (u=t)))) w:=by
 unfold execOp
 have he:(eqGuard .eql 129 x y (.agg (thC u).toArray) (.agg (thC t).toArray)).run Tryz.prog w=.ok () w:=by
  simp [eqGuard,Tryz.egTh]
 simp [ho,hx,hy,he,binOp,equal_th hu ht]
end Go.Proofs.YtcboiapggnmpfaaGreatDoor
