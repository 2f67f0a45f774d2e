import Derived.Test.YtcboiapggnmpfaaGreatDoorQal
import Derived.Test.YtcboiapggnmpfaaGreatDoorQaa
import Derived.Deep.MidRow
import Derived.Deep.RegionHeld3
import Derived.Deep.LoopGhost
import Derived.Test.YtcboiapggnmpfaaGreatDoorQad
namespace Go.Proofs.YtcboiapggnmpfaaGreatDoor
set_option maxRecDepth 100000
set_option maxHeartbeats 4000000
set_option linter.unusedSimpArgs false
set_option linter.unusedVariables false
open Go.RowKit
structure Evt where
 at':Int
 kind:Int
 x:Int
 y:Int
 z:Int
def evV (e:Evt):Value:=.agg #[.int .i64 e.at',.int .i64 e.kind,.int .i64 e.x,.int .i64 e.y,.int .i64 e.z]
def evF (e:Evt) (f:Int):Int:=if f=0 then e.at' else if f=1 then e.x else if f=2 then e.y else if f=3 then e.z else 0
theorem valueE_any (e:Evt) (f:Int) (w:World) :
  Calls Tryz.prog 83 #[evV e,.int .i64 f] w fun r w'=>r=.returned (.int .i64 (evF e f))∧Nw w w':=by
 obtain ⟨a,k,x,y,z⟩:=e
 unfold evV evF
 by_cases h0:f=0
 ·subst h0
  go_enter Tryz.func83,Tryz.ntmps83
  go_wp2
  go_ret
  exact ⟨rfl,(Kp.refl _ w).alloc _⟩
 ·have g0:(f == 0)=false:=by simpa using h0
  by_cases h1:f=1
  ·subst h1
   go_enter Tryz.func83,Tryz.ntmps83
   go_wp2
   go_ret
   exact ⟨rfl,(Kp.refl _ w).alloc _⟩
  ·have g1:(f == 1)=false:=by simpa using h1
   by_cases h2:f=2
   ·subst h2
    go_enter Tryz.func83,Tryz.ntmps83
    go_wp2
    go_ret
    exact ⟨rfl,(Kp.refl _ w).alloc _⟩
   ·have g2:(f == 2)=false:=by simpa using h2
    by_cases h3:f=3
    ·subst h3
     go_enter Tryz.func83,Tryz.ntmps83
     go_wp2
     go_ret
     exact ⟨rfl,(Kp.refl _ w).alloc _⟩
    ·have g3:(f == 3)=false:=by simpa using h3
     rw [if_neg h0,if_neg h1,if_neg h2,if_neg h3]
     go_enter Tryz.func83,Tryz.ntmps83
     go_wp2
     go_ret
     exact ⟨rfl,(Kp.refl _ w).alloc _⟩
def goodF (l:List Int) (e:Evt) (f:Int):Bool:=hasFd l e.kind f||evF e f == 0
def goodE (l:List Int) (e:Evt):Bool:=hasK l e.kind&&decide (0≤e.at')&&decide (e.at'≤1000000000000000)&&goodF l e 1&&goodF l e 2&&goodF l e 3
theorem isGood_any (l : List Int) (hl : l.length ≤ 4) (e : Evt) (w : World) :
    Calls Tryz.prog 53 #[schV l, evV e] w fun r w' => r = .returned (.bool (goodE l e)) ∧ Nw w w' := by
  obtain ⟨a, k, x, y, z⟩ := e
  have HHK : Hid (∀ W, Calls Tryz.prog 65 #[schV l, .int .i64 k] W fun e w' => e = .returned (.bool (hasK l k)) ∧ Nw W w') := fun W => has_any l k W hl
  have HHF : Hid (∀ f W, Calls Tryz.prog 82 #[schV l, .int .i64 k, .int .i64 f] W fun e w' => e = .returned (.bool (hasFd l k f)) ∧ Nw W w') := fun f W => hasField_any l k f W hl
  have HV : Hid (∀ f W, Calls Tryz.prog 83 #[evV ⟨a, k, x, y, z⟩, .int .i64 f] W fun r w' => r = .returned (.int .i64 (evF ⟨a, k, x, y, z⟩ f)) ∧ Nw W w') := fun f W => valueE_any _ f W
  have HG : Hid (goodE l ⟨a, k, x, y, z⟩ = (hasK l k && decide (0 ≤ a) && decide (a ≤ 1000000000000000) && goodF l ⟨a, k, x, y, z⟩ 1 && goodF l ⟨a, k, x, y, z⟩ 2 && goodF l ⟨a, k, x, y, z⟩ 3)) := rfl
  have HGF : Hid (∀ f, goodF l ⟨a, k, x, y, z⟩ f = (hasFd l k f || evF ⟨a, k, x, y, z⟩ f == 0)) := fun f => rfl
  generalize goodE l ⟨a, k, x, y, z⟩ = ge at *
  have HBX : Hid (∀ W, Nw ((w.alloc (.cells #[.int .i64 l.length, .int .i64 (scF l 0), .int .i64 (scF l 1), .int .i64 (scF l 2), .int .i64 (scF l 3)] 75)).alloc (.cells #[.int .i64 a, .int .i64 k, .int .i64 x, .int .i64 y, .int .i64 z] 32)) W → W.cell? ⟨w.heap.size, 0, none⟩ = some (.int .i64 l.length) ∧ W.cell? ⟨w.heap.size, 1, none⟩ = some (.int .i64 (scF l 0)) ∧ W.cell? ⟨w.heap.size, 2, none⟩ = some (.int .i64 (scF l 1)) ∧ W.cell? ⟨w.heap.size, 3, none⟩ = some (.int .i64 (scF l 2)) ∧ W.cell? ⟨w.heap.size, 4, none⟩ = some (.int .i64 (scF l 3)) ∧ W.cell? ⟨w.heap.size + 1, 0, none⟩ = some (.int .i64 a) ∧ W.cell? ⟨w.heap.size + 1, 1, none⟩ = some (.int .i64 k) ∧ W.cell? ⟨w.heap.size + 1, 2, none⟩ = some (.int .i64 x) ∧ W.cell? ⟨w.heap.size + 1, 3, none⟩ = some (.int .i64 y) ∧ W.cell? ⟨w.heap.size + 1, 4, none⟩ = some (.int .i64 z) ∧ w.heap.size + 1 < W.heap.size) := by
    intro W kW
    have hs : (((w.alloc (.cells #[.int .i64 l.length, .int .i64 (scF l 0), .int .i64 (scF l 1), .int .i64 (scF l 2), .int .i64 (scF l 3)] 75)).alloc (.cells #[.int .i64 a, .int .i64 k, .int .i64 x, .int .i64 y, .int .i64 z] 32))).heap.size = w.heap.size + 1 + 1 := by simp
    have k0 : ∀ o, W.cell? ⟨w.heap.size, o, none⟩ = (((w.alloc (.cells #[.int .i64 l.length, .int .i64 (scF l 0), .int .i64 (scF l 1), .int .i64 (scF l 2), .int .i64 (scF l 3)] 75)).alloc (.cells #[.int .i64 a, .int .i64 k, .int .i64 x, .int .i64 y, .int .i64 z] 32))).cell? ⟨w.heap.size, o, none⟩ := fun o => kW.cell (p := ⟨w.heap.size, o, none⟩) (by rw [hs]; show w.heap.size < _; omega) (fun h => h)
    have k1 : ∀ o, W.cell? ⟨w.heap.size + 1, o, none⟩ = (((w.alloc (.cells #[.int .i64 l.length, .int .i64 (scF l 0), .int .i64 (scF l 1), .int .i64 (scF l 2), .int .i64 (scF l 3)] 75)).alloc (.cells #[.int .i64 a, .int .i64 k, .int .i64 x, .int .i64 y, .int .i64 z] 32))).cell? ⟨w.heap.size + 1, o, none⟩ := fun o => kW.cell (p := ⟨w.heap.size + 1, o, none⟩) (by rw [hs]; show w.heap.size + 1 < _; omega) (fun h => h)
    have hsz := kW.size
    rw [hs] at hsz
    simp only [k0, k1]
    refine ⟨?_, ?_, ?_, ?_, ?_, ?_, ?_, ?_, ?_, ?_, by omega⟩ <;> simp [go_sem, World.cell?_alloc_at]
  have HK0 : Hid (Nw w ((w.alloc (.cells #[.int .i64 l.length, .int .i64 (scF l 0), .int .i64 (scF l 1), .int .i64 (scF l 2), .int .i64 (scF l 3)] 75)).alloc (.cells #[.int .i64 a, .int .i64 k, .int .i64 x, .int .i64 y, .int .i64 z] 32))) := ((Kp.refl _ w).alloc _).alloc _
  unfold schV evV at *
  simp only at HV ⊢
  go_enter Tryz.func53, Tryz.ntmps53
  go_wp2_with fail
  refine (HHK.out _).mono ?_
  rintro e1 w1 ⟨rfl, k1⟩
  obtain ⟨c0, c1, c2, c3, c4, d0, d1, d2, d3, d4, hlt⟩ := HBX.out w1 k1
  have K1 : Hid (Nw ((w.alloc (.cells #[.int .i64 l.length, .int .i64 (scF l 0), .int .i64 (scF l 1), .int .i64 (scF l 2), .int .i64 (scF l 3)] 75)).alloc (.cells #[.int .i64 a, .int .i64 k, .int .i64 x, .int .i64 y, .int .i64 z] 32)) w1) := k1
  clear k1 HHK
  generalize ((w.alloc (.cells #[.int .i64 l.length, .int .i64 (scF l 0), .int .i64 (scF l 1), .int .i64 (scF l 2), .int .i64 (scF l 3)] 75)).alloc (.cells #[.int .i64 a, .int .i64 k, .int .i64 x, .int .i64 y, .int .i64 z] 32)) = W0 at *
  generalize hasK l k = hk at *
  cases hk with
  | false =>
    have hge : ge = false := by rw [HG.out]; simp
    go_wp2
    go_ret
    exact ⟨by rw [hge]; rfl, HK0.out.trans K1.out⟩
  | true =>
    by_cases ha0 : a < 0
    · have hge : ge = false := by rw [HG.out]; have : decide (0 ≤ a) = false := by simp; omega
                                  simp [this]
      clear HG
      go_wp2
      go_ret
      exact ⟨by rw [hge]; rfl, HK0.out.trans K1.out⟩
    · by_cases ha1 : 1000000000000000 < a
      · have hge : ge = false := by rw [HG.out]; have : decide (a ≤ 1000000000000000) = false := by simp; omega
                                    simp [this]
        clear HG
        have ha0' : decide (a < 0) = false := by simpa using ha0
        go_wp2
        go_ret
        exact ⟨by rw [hge]; rfl, HK0.out.trans K1.out⟩
      · have HG2 : Hid (ge = (goodF l ⟨a, k, x, y, z⟩ 1 && goodF l ⟨a, k, x, y, z⟩ 2 && goodF l ⟨a, k, x, y, z⟩ 3)) := by
          show _ = _
          rw [HG.out, show decide (0 ≤ a) = true by simp; omega, show decide (a ≤ 1000000000000000) = true by simp; omega]
          simp
        have ha0' : decide (a < 0) = false := by simpa using ha0
        have ha1' : decide (1000000000000000 < a) = false := by simpa using ha1
        clear HG
        go_wp2
        go_loopg [5] 3 (fun m v5 wr => ∃ i : Nat, v5 = .int .i64 ((i : Int) + 1) ∧ m = 3 - i ∧ i ≤ 3 ∧ (∀ j : Nat, j < i → goodF l ⟨a, k, x, y, z⟩ ((j : Int) + 1) = true) ∧ Nw W0 wr)
        case atStart => exact ⟨0, rfl, rfl, by omega, fun j hj => by omega, K1.out⟩
        case round =>
          obtain ⟨i, rfl, hm, hi, hgd, hk⟩ := hrel
          have HM : Hid (_ = 3 - i) := hm
          have HGD : Hid (∀ j : Nat, j < i → goodF l ⟨a, k, x, y, z⟩ ((j : Int) + 1) = true) := hgd
          have HK : Hid (Nw W0 wr) := hk
          clear c0 c1 c2 c3 c4 d0 d1 d2 d3 d4 hlt
          obtain ⟨c0, c1, c2, c3, c4, d0, d1, d2, d3, d4, hlt⟩ := HBX.out wr hk
          clear hm hgd hk
          by_cases hil : i < 3
          · have HGI := HGF.out ((i : Int) + 1)
            have HF := HHF.out ((i : Int) + 1)
            have HV1 := HV.out ((i : Int) + 1)
            have HBAD : Hid (goodF l ⟨a, k, x, y, z⟩ ((i : Int) + 1) = false → ge = false) := by
              intro h
              rw [HG2.out]
              have h3 : i = 0 ∨ i = 1 ∨ i = 2 := by omega
              rcases h3 with rfl | rfl | rfl <;> simp at h <;> simp [h]
            have HNX : Hid (goodF l ⟨a, k, x, y, z⟩ ((i : Int) + 1) = true → ∀ j : Nat, j < i + 1 → goodF l ⟨a, k, x, y, z⟩ ((j : Int) + 1) = true) := by
              intro h j hj
              by_cases e : j = i
              · subst e; exact h
              · exact HGD.out j (by omega)
            generalize goodF l ⟨a, k, x, y, z⟩ ((i : Int) + 1) = gi at *
            generalize hasFd l k ((i : Int) + 1) = hfd at *
            generalize evF ⟨a, k, x, y, z⟩ ((i : Int) + 1) = vf at *
            have HGI' : Hid (gi = (hfd || vf == 0)) := HGI
            clear HGI HGD
            go_wp2_with fail
            refine (HF _).mono ?_
            rintro e2 w2 ⟨rfl, k2⟩
            have K2 : Hid (Nw W0 w2) := HK.out.trans k2
            clear c0 c1 c2 c3 c4 d0 d1 d2 d3 d4 hlt
            obtain ⟨c0, c1, c2, c3, c4, d0, d1, d2, d3, d4, hlt⟩ := HBX.out w2 K2.out
            clear k2
            cases hfd with
            | true =>
              go_wp2
              go_roundg (3 - (i + 1))
              case measure => rw [HM.out]; omega
              case rel => exact ⟨i + 1, by simp, rfl, by omega, HNX.out (by rw [HGI'.out]; rfl), K2.out⟩
            | false =>
              go_wp2_with fail
              refine (HV1 _).mono ?_
              rintro e3 w3 ⟨rfl, k3⟩
              have K3 : Hid (Nw W0 w3) := K2.out.trans k3
              clear k3
              by_cases hv : vf = 0
              · have hv' : (vf != 0) = false := by simp [hv]
                have HGT : Hid (gi = true) := by show _ = _; rw [HGI'.out]; simp [hv]
                clear hv
                go_wp2
                go_roundg (3 - (i + 1))
                case measure => rw [HM.out]; omega
                case rel => exact ⟨i + 1, by simp, rfl, by omega, HNX.out HGT.out, K3.out⟩
              · have hv' : (vf != 0) = true := by simp [hv]
                have hge : Hid (ge = false) := HBAD.out (by rw [HGI'.out]; simp [hv])
                clear hv
                go_wp2
                go_ret
                exact ⟨by rw [hge.out]; rfl, HK0.out.trans K3.out⟩
          · have hie : i = 3 := by omega
            have hge : Hid (ge = true) := by
              show _ = _
              subst hie
              rw [HG2.out]
              have g1 := HGD.out 0 (by omega)
              have g2 := HGD.out 1 (by omega)
              have g3 := HGD.out 2 (by omega)
              simp at g1 g2 g3
              simp [g1, g2, g3]
            subst hie
            go_wp2
            go_ret
            exact ⟨by rw [hge.out]; rfl, HK0.out.trans HK.out⟩
deriving instance DecidableEq for Evt
structure Nmb where
 n:Int
 e:Evt
deriving DecidableEq
structure Thr where
 at':Int
 first:Int
 began:Int
 h0:Nmb
 h1:Nmb
 h2:Nmb
 h3:Nmb
deriving DecidableEq
def Thr.hd (t:Thr):Nat→Nmb
 | 0=>t.h0
 | 1=>t.h1
 | 2=>t.h2
 | _=>t.h3
def ev0:Evt:=⟨0,0,0,0,0⟩
def nmb0:Nmb:=⟨-1,ev0⟩
def newT (a:Int) (e:Nmb):Thr:=⟨a,e.n,e.e.at',nmb0,nmb0,nmb0,nmb0⟩
def aheadF (t o:Thr):Nat→Nat→Bool
 | 0,_=>decide (t.at'<o.at')
 | m+1,i=>if (t.hd i).n=(o.hd i).n then aheadF t o m (i+1) else decide ((t.hd i).n<(o.hd i).n)
def aheadB (t o:Thr):Bool:=if t.first=o.first then aheadF t o 4 0 else decide (t.first<o.first)
structure Mt where
 first:Int
 last:Int
 h0:Int
 h1:Int
 h2:Int
 h3:Int
deriving DecidableEq
def matchT (t:Thr) (last:Int):Mt:=⟨t.first,last,t.h0.n,t.h1.n,t.h2.n,t.h3.n⟩
structure Crw where
 l:List Thr
 most:Int
 over:Bool
def plcFT (l:List Thr) (t:Thr):Nat→Nat→Nat→Nat
 | 0,lo,_=>lo
 | m+1,lo,hi =>
  if lo<hi then
   match l[lo+(hi - lo) / 2]? with
   | some u=>if aheadB u t=true then plcFT l t m (lo+(hi - lo) / 2+1) hi else plcFT l t m lo (lo+(hi - lo) / 2)
   | none=>lo
  else lo
def plcT (l:List Thr) (t:Thr):Nat:=plcFT l t l.length 0 l.length
def addC (c:Crw) (t:Thr):Crw :=
 if c.l[plcT c.l t]? = some t then c
 else if c.most≤c.l.length then { c with over:=true }
 else { c with l:=c.l.take (plcT c.l t)++t::c.l.drop (plcT c.l t) }
def bitN (p:Int):Nat:=if p=0 then 1 else if p=1 then 2 else if p=2 then 4 else if p=3 then 8 else 0
def heldS (hand:Nmb) (t:Thr) (p:Int) (anew:Nat):Nmb :=
 if ¬anew &&& bitN p=0 then hand else if p<0∨4≤p then nmb0 else t.hd p.toNat
def threadS (hand:Nmb) (t:Thr) (a:Int) (anew:Nat):Thr :=
 ⟨a,t.first,t.began,heldS hand t 0 anew,heldS hand t 1 anew,heldS hand t 2 anew,heldS hand t 3 anew⟩
def valS (hand:Nmb) (t:Thr) (anew:Nat) (x:Tm):Int×Bool :=
 if x.of=0 then (x.num,true) else if x.of=1 then (evF hand.e x.field,true)
 else (evF (heldS hand t (x.of - 2) anew).e x.field,decide (¬(heldS hand t (x.of - 2) anew).n = -1))
def arS (ar a b:Int):Int×Bool :=
 if ar=0 then (a,true) else if ar=1 then (wrap64 (a+b),decide (In64 (a+b))) else if ar=2 then (wrap64 (a - b),decide (In64 (a - b)))
 else if ar=3 then (wrap64 (a*b),decide (In64 (a*b))) else (0,false)
def rsideS (hand:Nmb) (t:Thr) (anew:Nat) (x:Tst):Int×Bool :=
 if (valS hand t anew x.right).2=true∧(valS hand t anew x.more).2=true then arS x.arith (valS hand t anew x.right).1 (valS hand t anew x.more).1 else (0,false)
def relS (r a b:Int):Bool:=if r=0 then decide (a<b) else if r=1 then decide (b<a) else if r=2 then decide (a=b) else if r=3 then decide (¬a=b) else false
def soS (hand:Nmb) (t:Thr) (anew:Nat) (x:Tst):Bool :=
 (valS hand t anew x.left).2&&(rsideS hand t anew x).2&&relS x.rel (valS hand t anew x.left).1 (rsideS hand t anew x).1
structure Tn where
 vis:List Bool
 opn:List (Int×Nat)
 wait:Crw
 ended:Crw
def rchS (s:Tn) (a:Int) (anew:Nat):Tn :=
 if 0≤a∧s.vis[(a*16+anew).toNat]? = some false then { s with vis:=s.vis.set (a*16+anew).toNat true,opn:=s.opn++[(a,anew)] } else s
def lvS (hand:Nmb) (t:Thr) (s:Tn) (a:Int) (anew:Nat) (x:In):Tn :=
 if x.op=0 then { s with wait:=addC s.wait (threadS hand t a anew) }
 else if x.op=1 then (if hand.e.at' - t.began≤x.a then rchS s (a+1) anew else s)
 else if x.op=2 then (if soS hand t anew x.test=true then rchS s (a+1) anew else s)
 else if x.op=3 then rchS s (a+1) (anew ||| bitN x.a)
 else if x.op=4 then rchS s x.a anew
 else if x.op=5 then rchS (rchS s x.a anew) x.b anew
 else if x.op=6 then { s with ended:=addC s.ended (threadS hand t 0 anew) }
 else s
def goF (code:List In) (hand:Nmb) (t:Thr):Nat→Tn→Tn
 | 0,s=>s
 | m+1,s =>
  if s.wait.over=true∨s.ended.over=true then s else
  match s.opn.getLast? with
  | none=>s
  | some p =>
   match code[p.1.toNat]? with
   | none=>s
   | some x=>goF code hand t m (lvS hand t { s with opn:=s.opn.dropLast } p.1 p.2 x)
def goOnS (code:List In) (hand:Nmb) (c:Crw×Crw) (t:Thr):Crw×Crw :=
 match code[t.at'.toNat]? with
 | none=>c
 | some x =>
  if x.a=4∨x.a=hand.e.kind then
   ((goF code hand t (1+16*code.length) (rchS ⟨List.replicate (16*code.length) false,[],c.1,c.2⟩ (t.at'+1) 0)).wait,(goF code hand t (1+16*code.length) (rchS ⟨List.replicate (16*code.length) false,[],c.1,c.2⟩ (t.at'+1) 0)).ended)
  else c
def nmC (x:Nmb):List Value:=[.int .i64 x.n,.int .i64 x.e.at',.int .i64 x.e.kind,.int .i64 x.e.x,.int .i64 x.e.y,.int .i64 x.e.z]
def nmV (x:Nmb):Value:=.agg #[.int .i64 x.n,.int .i64 x.e.at',.int .i64 x.e.kind,.int .i64 x.e.x,.int .i64 x.e.y,.int .i64 x.e.z]
def thC (t:Thr):List Value:=[.int .i64 t.at',.int .i64 t.first,.int .i64 t.began,
 .int .i64 t.h0.n,.int .i64 t.h0.e.at',.int .i64 t.h0.e.kind,.int .i64 t.h0.e.x,.int .i64 t.h0.e.y,.int .i64 t.h0.e.z,
 .int .i64 t.h1.n,.int .i64 t.h1.e.at',.int .i64 t.h1.e.kind,.int .i64 t.h1.e.x,.int .i64 t.h1.e.y,.int .i64 t.h1.e.z,
 .int .i64 t.h2.n,.int .i64 t.h2.e.at',.int .i64 t.h2.e.kind,.int .i64 t.h2.e.x,.int .i64 t.h2.e.y,.int .i64 t.h2.e.z,
 .int .i64 t.h3.n,.int .i64 t.h3.e.at',.int .i64 t.h3.e.kind,.int .i64 t.h3.e.x,.int .i64 t.h3.e.y,.int .i64 t.h3.e.z]
def thV (t:Thr):Value:=.agg #[.int .i64 t.at',.int .i64 t.first,.int .i64 t.began,
 .int .i64 t.h0.n,.int .i64 t.h0.e.at',.int .i64 t.h0.e.kind,.int .i64 t.h0.e.x,.int .i64 t.h0.e.y,.int .i64 t.h0.e.z,
 .int .i64 t.h1.n,.int .i64 t.h1.e.at',.int .i64 t.h1.e.kind,.int .i64 t.h1.e.x,.int .i64 t.h1.e.y,.int .i64 t.h1.e.z,
 .int .i64 t.h2.n,.int .i64 t.h2.e.at',.int .i64 t.h2.e.kind,.int .i64 t.h2.e.x,.int .i64 t.h2.e.y,.int .i64 t.h2.e.z,
 .int .i64 t.h3.n,.int .i64 t.h3.e.at',.int .i64 t.h3.e.kind,.int .i64 t.h3.e.x,.int .i64 t.h3.e.y,.int .i64 t.h3.e.z]
theorem thC_len (t:Thr):(thC t).length=27:=by simp [thC]
theorem thC_hd (t:Thr) (i:Nat) (hi:i<4):(thC t)[3+i*6]? = some (.int .i64 (t.hd i).n):=by
 match i,hi with
 | 0,_=>rfl
 | 1,_=>rfl
 | 2,_=>rfl
 | 3,_=>rfl
theorem isAhead_any (t o:Thr) (w:World) :
  Calls Tryz.prog 125 #[thV t,thV o] w fun e w'=>e=.returned (.bool (aheadB t o))∧Nw w w':=by
 have HC:Hid (∀i,i<4→((w.alloc (.cells (thC t).toArray 129)).alloc (.cells (thC o).toArray 129)).cell? ⟨w.heap.size,3+i*6,none⟩=some (.int .i64 (t.hd i).n)∧((w.alloc (.cells (thC t).toArray 129)).alloc (.cells (thC o).toArray 129)).cell? ⟨w.heap.size+1,3+i*6,none⟩=some (.int .i64 (o.hd i).n)):=by
  intro i hi
  refine ⟨?_,?_⟩
  ·simp [go_sem,World.cell?_alloc_at,thC_hd t i hi]
  ·rw [World.cell?_alloc_at (w:=w.alloc _) _ _ _ _ (by simp)];simp [thC_hd o i hi]
 have HA:Hid (∀i,i<4→aheadF t o (4 - i) i=if (t.hd i).n=(o.hd i).n then aheadF t o (4 - (i+1)) (i+1) else decide ((t.hd i).n<(o.hd i).n)):=by
  intro i hi
  obtain ⟨m,hm⟩:∃m,4 - i=m+1:=⟨3 - i,by omega⟩
  rw [show 4 - (i+1)=m by omega,hm];rfl
 have HB:Hid (aheadB t o=if t.first=o.first then aheadF t o 4 0 else decide (t.first<o.first)):=rfl
 have HE:Hid (aheadF t o 0 4=decide (t.at'<o.at')):=rfl
 unfold thV
 simp only [thC] at HC
 by_cases hf:t.first=o.first
 ·rw [if_pos hf] at HB
  have hf':(t.first != o.first)=false:=by simp [hf]
  clear hf
  go_enter Tryz.func125,Tryz.ntmps125
  go_wp2
  go_loopg [5] 4 (fun m v5 wr=>∃i:Nat,v5=.int .i64 i∧m=4 - i∧i≤4∧aheadF t o (4 - i) i=aheadB t o∧(∀j,j<4→wr.cell? ⟨w.heap.size,3+j*6,none⟩=some (.int .i64 (t.hd j).n)∧wr.cell? ⟨w.heap.size+1,3+j*6,none⟩=some (.int .i64 (o.hd j).n))∧wr.cell? ⟨w.heap.size,0,none⟩=some (.int .i64 t.at')∧wr.cell? ⟨w.heap.size+1,0,none⟩=some (.int .i64 o.at')∧Nw w wr)
  case atStart=>exact ⟨0,rfl,rfl,by omega,HB.out.symm,HC.out,by simp [go_sem,World.cell?_alloc_at],by simp [go_sem,World.cell?_alloc_at],((Kp.refl _ w).alloc _).alloc _⟩
  case round =>
   obtain ⟨i,rfl,hm,hi,hah,hcc,ca,co,hk⟩:=hrel
   have HM:Hid (_=4 - i):=hm
   have HAH:Hid (aheadF t o (4 - i) i=aheadB t o):=hah
   have HCC:Hid (∀j,j<4→wr.cell? ⟨w.heap.size,3+j*6,none⟩=some (.int .i64 (t.hd j).n)∧wr.cell? ⟨w.heap.size+1,3+j*6,none⟩=some (.int .i64 (o.hd j).n)):=hcc
   have HCA:Hid (wr.cell? ⟨w.heap.size,0,none⟩=some (.int .i64 t.at')):=ca
   have HCO:Hid (wr.cell? ⟨w.heap.size+1,0,none⟩=some (.int .i64 o.at')):=co
   have HK:Hid (Nw w wr):=hk
   clear hm hah hcc hk HC HB
   by_cases hil:i<4
   ·clear ca co
    obtain ⟨d0,d1⟩:=HCC.out i hil
    have HAI:=HA.out i hil
    have HAI':Hid ((if (t.hd i).n=(o.hd i).n then aheadF t o (4 - (i+1)) (i+1) else decide ((t.hd i).n<(o.hd i).n))=aheadB t o):=by show _=_;rw [←HAI];exact HAH.out
    clear HAI HAH HA HE
    generalize (t.hd i).n=p at *
    generalize (o.hd i).n=q at *
    by_cases hpq:p=q
    ·rw [if_pos hpq] at HAI'
     have hpq':(p != q)=false:=by simp [hpq]
     clear hpq
     go_wp2
     go_quiet (fail)
     go_wp2
     go_roundg (4 - (i+1))
     case measure=>rw [HM.out];omega
     case rel=>exact ⟨i+1,by simp,rfl,by omega,HAI'.out,HCC.out,HCA.out,HCO.out,HK.out.trans ((Kp.refl _ _).drewN _)⟩
    ·rw [if_neg hpq] at HAI'
     have hpq':(p != q)=true:=by simp [hpq]
     clear hpq
     go_wp2
     go_quiet (fail)
     go_wp2
     go_quiet (fail)
     go_wp2
     go_ret
     exact ⟨by rw [←HAI'.out];rfl,HK.out.trans (((Kp.refl _ _).drewN _).drewN _)⟩
   ·have hie:i=4:=by omega
    subst hie
    have HF:Hid (decide (t.at'<o.at')=aheadB t o):=by show _=_;rw [←HE.out];exact HAH.out
    go_wp2
    go_ret
    exact ⟨by rw [←HF.out];rfl,HK.out⟩
 ·rw [if_neg hf] at HB
  have hf':(t.first != o.first)=true:=by simp [hf]
  clear hf
  go_enter Tryz.func125,Tryz.ntmps125
  go_wp2
  go_ret
  exact ⟨by rw [HB.out];rfl,((Kp.refl _ w).alloc _).alloc _⟩
structure Bx (w:World) (B:Nat) (cs:List Value):Prop where
 r:w.rangeAt B 0 cs
 z:∀o,w.frozen? ⟨B,o,none⟩=false
theorem Bx.cell {w:World} {B:Nat} {cs:List Value} (h:Bx w B cs) {k:Nat} {v:Value} (hv:cs[k]? = some v):w.cell? ⟨B,k,none⟩=some v:=by
 have:=h.r k v hv
 rwa [Nat.zero_add] at this
theorem Bx.lt {w:World} {B:Nat} {cs:List Value} (h:Bx w B cs) (hc:0<cs.length):B<w.heap.size :=
 World.block_lt_of_cell? w ⟨B,0,none⟩ (h.cell (k:=0) (v:=cs[0]) (by simp [hc]))
theorem Bx.there {w:World} {B:Nat} {cs:List Value} (h:Bx w B cs) {n:Nat} (hn:cs.length=n):w.there B 0 n:=by
 intro j hj
 rw [Nat.zero_add]
 refine ⟨?_,h.z j⟩
 rw [h.cell (k:=j) (v:=cs[j]'(by omega)) (by simp [hn,hj])]
 rfl
theorem Bx.new (w:World) (cs:List Value) (t:TypeId):Bx (w.alloc (.cells cs.toArray t)) w.heap.size cs:=by
 refine ⟨?_,?_⟩
 ·intro j v hv
  rw [Nat.zero_add,World.cell?_alloc_at (w:=w) cs.toArray t _ j rfl]
  simpa using hv
 ·intro o;simp [World.frozen?_alloc_at]
theorem Bx.kp {S:Nat→Prop} {w w':World} {B:Nat} {cs:List Value} (h:Bx w B cs) (hc:0<cs.length) (k:Kp S w w') (hs:¬S B):Bx w' B cs:=by
 refine ⟨fun j v hv => ?_,fun o => ?_⟩
 ·rw [k.cell (p:=⟨B,0+j,none⟩) (h.lt hc) hs];exact h.r j v hv
 ·rw [k.frozen (p:=⟨B,o,none⟩) (h.lt hc) hs];exact h.z o
theorem Bx.set {w:World} {B:Nat} {cs:List Value} (h:Bx w B cs) (k:Nat) (v:Value):Bx (w.setCell ⟨B,k,none⟩ v) B (cs.set k v):=by
 refine ⟨fun j u hu => ?_,fun o=>by rw [←h.z o];simp [go_sem]⟩
 rw [Nat.zero_add]
 by_cases hj:j=k
 ·subst hj
  by_cases hl:j<cs.length
  ·have e:u=v:=by
    rw [List.getElem?_set_self hl] at hu
    simpa using hu.symm
   subst e
   have hc:=h.cell (k:=j) (v:=cs[j]) (by simp [hl])
   simp [go_sem,hc,h.z]
  ·rw [List.set_eq_of_length_le (by omega),List.getElem?_eq_none (by omega)] at hu
   simp at hu
 ·rw [List.getElem?_set_ne (by omega)] at hu
  have hc:=h.cell hu
  have hj':¬k=j:=fun e=>hj e.symm
  simp [go_sem,hc,hj,hj']
theorem Bx.put {w:World} {B:Nat} {cs:List Value} (h:Bx w B cs) {vs:List Value} (hl:cs.length=vs.length):Bx (w.setCells B 0 vs) B vs :=
 ⟨World.rangeAt_setCells_same w B 0 vs (h.there hl),fun o=>by rw [World.frozen?_setCells];exact h.z o⟩
theorem Bx.puts {B:Nat}:∀(vs:List Value) (o:Nat) (w:World) (p m q:List Value),Bx w B (p++m++q)→p.length=o→m.length=vs.length→Bx (w.setCells B o vs) B (p++vs++q):=by
 intro vs
 induction vs with
 | nil=>intro o w p m q h hp hm;have:m=[]:=List.length_eq_zero_iff.1 hm;subst this;exact h
 | cons v r ih =>
  intro o w p m q h hp hm
  cases m with
  | nil=>simp at hm
  | cons y m =>
   have h1:=h.set o v
   have e1:(p++(y::m)++q).set o v=(p++[v])++m++q:=by
    subst hp;simp
   rw [e1] at h1
   have:=ih (o+1) (w.setCell ⟨B,o,none⟩ v) (p++[v]) m q h1 (by simp [hp]) (by simpa using hm)
   have e2:p++[v]++r++q=p++(v::r)++q:=by simp
   rw [e2] at this
   exact this
def thsC (l:List Thr):List Value:=(l.map thC).flatten
theorem thsC_length (l:List Thr):(thsC l).length=l.length*27:=by
 induction l with
 | nil=>rfl
 | cons y r ih =>
  have e:thsC (y::r)=thC y++thsC r:=by simp [thsC]
  rw [e,List.length_append,ih,thC_len,List.length_cons];omega
theorem thsC_app (a b:List Thr):thsC (a++b)=thsC a++thsC b:=by simp [thsC]
theorem thsC_cons (x:Thr) (b:List Thr):thsC (x::b)=thC x++thsC b:=by simp [thsC]
theorem thsC_get (l:List Thr) (i k:Nat) (x:Thr) (h:l[i]? = some x) (hk:k<27):(thsC l)[i*27+k]? = (thC x)[k]?:=by
 obtain ⟨hi,hx⟩:=List.getElem?_eq_some_iff.1 h
 have e:l=l.take i++x::l.drop (i+1):=by rw [←hx];simp
 have hl:(thsC (l.take i)).length=i*27:=by rw [thsC_length,List.length_take,Nat.min_eq_left (by omega)]
 rw [e,thsC_app,thsC_cons,List.getElem?_append_right (by omega),hl,Nat.add_sub_cancel_left,List.getElem?_append_left (by rw [thC_len];exact hk)]
theorem thC_one (t:Thr):∀v∈thC t,v.oneCell'=true:=by
 intro v hv
 simp only [thC,List.mem_cons,List.not_mem_nil,or_false] at hv
 rcases hv with h|h|h|h|h|h|h|h|h|h|h|h|h|h|h|h|h|h|h|h|h|h|h|h|h|h|h <;> subst h <;> rfl
theorem owns_setCells {base g n cap size:Nat} {e:TypeId}:∀(vs:List Value) (o:Nat) (w:World) (p q:List Value) (m:List Value),w.ownsRow base e size (.slice (some ⟨g,0,none⟩) n cap) n (p++m++q)→p.length=o→m.length=vs.length→(w.setCells g o vs).ownsRow base e size (.slice (some ⟨g,0,none⟩) n cap) n (p++vs++q):=by
 intro vs
 induction vs with
 | nil=>intro o w p q m h hp hm;have:m=[]:=List.length_eq_zero_iff.1 hm;subst this;exact h
 | cons v r ih =>
  intro o w p q m h hp hm
  cases m with
  | nil=>simp at hm
  | cons y m =>
   have h1:=(h.stored o v).1
   have e1:(p++(y::m)++q).set o v=(p++[v])++m++q:=by
    subst hp;simp
   rw [e1] at h1
   have:=ih (o+1) (w.setCell ⟨g,o,none⟩ v) (p++[v]) q m h1 (by simp [hp]) (by simpa using hm)
   have e2:p++[v]++r++q=p++(v::r)++q:=by simp
   rw [e2] at this
   exact this
theorem kp_setCells {g:Nat}:∀(vs:List Value) (o:Nat) (w:World),Kp (fun b=>b=g) w (w.setCells g o vs):=by
 intro vs
 induction vs with
 | nil=>intro o w;exact Kp.refl _ _
 | cons v r ih=>intro o w;exact ((Kp.refl (fun b=>b=g) w).setCell (p:=⟨g,o,none⟩) (Or.inr rfl) v).trans (ih (o+1) _)
theorem owns_setT {w:World} {base g n cap:Nat} {e:TypeId} {a b:List Thr} {y:Thr} (h:w.ownsRow base e 27 (.slice (some ⟨g,0,none⟩) n cap) n (thsC (a++y::b))) (u:Thr):(w.setCells g (a.length*27) (thC u)).ownsRow base e 27 (.slice (some ⟨g,0,none⟩) n cap) n (thsC (a++u::b)):=by
 rw [thsC_app,thsC_cons,←List.append_assoc] at h ⊢
 exact owns_setCells (thC u) (a.length*27) w (thsC a) (thsC b) (thC y) h (thsC_length a) (by rw [thC_len,thC_len])
theorem owns_rangeT {w:World} {base g n c i:Nat} {e:TypeId} {l:List Thr} {x:Thr} (h:w.ownsRow base e 27 (.slice (some ⟨g,0,none⟩) n c) n (thsC l)) (hx:l[i]? = some x):w.rangeAt g (i*27) (thC x):=by
 intro k v hv
 have hk:k<27:=by have:=(List.getElem?_eq_some_iff.1 hv).1;simpa [thC_len] using this
 exact owns_cell h (i*27+k) (by rw [thsC_get l i k x hx hk];exact hv)
theorem Tryz.rowTh:(Tryz.prog.underlying 129).map TypeDesc.isRow=some true:=by kernel_rfl
theorem Tryz.sizeTh:(Tryz.prog.info? 129).map (·.size)=some 27:=by kernel_rfl
theorem size_th (t:Thr):(Tryz.prog.info? 129).map (·.size)=some (thC t).length:=by rw [thC_len];exact Tryz.sizeTh
end Go.Proofs.YtcboiapggnmpfaaGreatDoor
