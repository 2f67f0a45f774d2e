import Derived.Test.YtcboiapggnmpfaaGreatQah
import Derived.Test.YtcboiapggnmpfaaGreatQao
import Derived.Test.YtcboiapggnmpfaaGreatQag
import Derived.Test.YtcboiapggnmpfaaGreatQbt
namespace Go.Proofs.YtcboiapggnmpfaaGreat
set_option maxRecDepth 100000
set_option maxHeartbeats 4000000
set_option linter.unusedSimpArgs false
set_option linter.unusedVariables false
open Go.RowKit
open Value (bool)
def numC (xs:List Int):List Value:=xs.map (fun z=>.int .i64 z)
theorem numC_one (xs:List Int) (z:Int):numC (xs++[z])=numC xs++[.int .i64 z]:=by simp [numC]
theorem numC_get (xs:List Int) (i:Nat):(numC xs)[i]? = (xs[i]?).map (fun z=>.int .i64 z):=by simp [numC]
theorem unNumb:Tryz.prog.underlying 217=some (.slice 3):=by kernel_rfl
theorem ownsBaseX' {w:World} {base base' n size:Nat} {e:TypeId} {v:Value} {xs:List Value} (h:w.ownsRow base e size v n xs) (hb:base'≤base):w.ownsRow base' e size v n xs:=by
 obtain ⟨h1,h2⟩:=h
 refine ⟨h1,?_⟩
 rcases h2 with h2|⟨g,cap,cur,a,b,c⟩
 ·exact Or.inl h2
 ·exact Or.inr ⟨g,cap,cur,a,Nat.le_trans hb b,c⟩
structure Nb (W0 wr:World) (v:Value) (xs:List Int):Prop where
 own:wr.ownsRow W0.heap.size 3 1 v xs.length (numC xs)
 nw:Nw W0 wr
theorem Nb.next {W0 wr w':World} {v:Value} {xs:List Int} (h:Nb W0 wr v xs) (k:Nw wr w'):Nb W0 w' v xs:=⟨owns_kp h.own k (fun _ _ h=>h),h.nw.trans k⟩
theorem Nb.more {W0 wr w':World} {v v':Value} {xs:List Int} {z:Int} (h:Nb W0 wr v xs) (hg:wr.grownBy w' v.ownBlock) (ho:w'.ownsRow W0.heap.size 3 1 v' (xs.length+1) (numC xs++[.int .i64 z])):Nb W0 w' v' (xs++[z]):=by
 refine ⟨?_,h.nw.grown hg (fun b hb=>Or.inl (h.own.lt b hb).1)⟩
 have e1:(xs++[z]).length=xs.length+1:=by simp
 rw [e1,numC_one];exact ho
theorem numberAnew_any (g cap : Nat) (l : List In) (ks : List Bool) (w : World) (hc : Code' w g l) (hA : AllIns l) (hi : 0 < l.length) (hn : l.length ≤ 1000) (hk : KeepIs l ks) :
    Calls Tryz.prog 119 #[.slice (some ⟨g, 0, none⟩) l.length cap] w fun e w' => ∃ v, e = .returned v ∧ Nb w w' v (numTo ks l.length) := by
  obtain ⟨i1, hi1, hy0, hy1, hy2⟩ := info_parts Tryz.info3
  go_enter Tryz.func119, Tryz.ntmps119
  go_wp2_with fail
  refine (reachedFromFirst_any g cap l w hc hA hi hn).mono ?_
  rintro e w1 ⟨b1, rfl, hrow, hl1, hb1, k1⟩
  have C1 : Hid (Code' w1 g l) := hc.kp k1 (fun h => h)
  have K1 : Hid (Nw w w1) := k1
  have R1 : Hid (Row w1 w.heap.size 4 (b1.map bool)) := hrow
  clear hrow k1
  go_wp2_with fail
  refine (leadingToEnd_any g cap l w1 C1.out hA hi hn).mono ?_
  rintro e w2 ⟨b2, rfl, hrow, hl2, hb2, k2⟩
  have K2 : Hid (Nw w w2) := K1.out.trans k2
  have R2 : Hid (Row w2 w1.heap.size 4 (b2.map bool)) := hrow
  have R2' : Hid (Row w2 w.heap.size 4 (b1.map bool)) := R1.out.kp k2 (fun h => h)
  have HKS : Hid (∀ (i : Nat) (x y : Bool), b1[i]? = some x → b2[i]? = some y → (ks[i]? = some true ↔ x = true ∧ y = true)) := by
    intro i x y h1 h2
    have hil : i < l.length := by rw [← hl1]; exact (List.getElem?_eq_some_iff.1 h1).1
    rw [hk.on i hil, ← hb1 i, ← hb2 i, h1, h2]
    simp
  have HSZ : Hid (w1.heap.size ≤ w2.heap.size) := k2.size
  have HL1 : Hid (b1.length = l.length) := hl1
  have HL2 : Hid (b2.length = l.length) := hl2
  clear hrow hb1 hb2 k2 R1 K1 C1 hl1 hl2 hc hA hk
  go_wp2
  go_loopg [5, 6, 7] l.length (fun m v5 v6 v7 wr => ∃ i : Nat, v6 = .int .i64 (cntTo ks i : Nat) ∧ v7 = .int .i64 i ∧ m = l.length - i ∧ i ≤ l.length ∧ Nb w2 wr v5 (numTo ks i))
  case atStart => exact ⟨0, rfl, rfl, rfl, by omega, ⟨World.ownsRow_nil _ _ _ _, Kp.refl _ _⟩⟩
  case round =>
    obtain ⟨i, rfl, rfl, hm, hil, hB⟩ := hrel
    have HM : Hid (_ = l.length - i) := hm
    have HB : Hid (Nb w2 wr u5 (numTo ks i)) := hB
    clear hm
    by_cases hi' : i < l.length
    · obtain ⟨x, hx⟩ : ∃ x, b1[i]? = some x := ⟨b1[i]'(by rw [HL1.out]; exact hi'), by simp [HL1.out, hi']⟩
      obtain ⟨y, hy⟩ : ∃ y, b2[i]? = some y := ⟨b2[i]'(by rw [HL2.out]; exact hi'), by simp [HL2.out, hi']⟩
      have HKI : Hid (ks[i]? = some true ↔ x = true ∧ y = true) := HKS.out i x y hx hy
      have c1 : wr.cell? ⟨w.heap.size, i, none⟩ = some (.bool x) := by
        rw [(R2'.out.kp hB.nw (fun h => h)).cell]; simp [hx]
      have c2 : wr.cell? ⟨w1.heap.size, i, none⟩ = some (.bool y) := by
        rw [(R2.out.kp hB.nw (fun h => h)).cell]; simp [hy]
      have hle := cntTo_le ks i
      have hlen : (numTo ks i).length = i := numTo_length ks i
      clear hx hy hB
      cases x with
      | true =>
       cases y with
       | true =>
        have HN : Hid (numTo ks (i + 1) = numTo ks i ++ [(cntTo ks i : Int)]) := by
          show _ = _
          have : ks[i]? = some true := HKI.out.2 ⟨rfl, rfl⟩
          simp [numTo, this]
        have HC : Hid (cntTo ks (i + 1) = cntTo ks i + 1) := by
          show _ = _
          have : ks[i]? = some true := HKI.out.2 ⟨rfl, rfl⟩
          simp [cntTo, this]
        clear HKI
        generalize hc : cntTo ks i = c at *
        go_wp2_with (at_builtin; refine wpList_append_lies _ rfl _ _ 217 rfl w2.heap.size 3 i1 (.int .i64 0) 1 8 unNumb hi1 hy0 hy1 hy2 rfl (by decide) _ _ _ rfl (HB.out.own.alloc _) ⟨wr.heap.size, 0, none⟩ 1 1 [.int .i64 c] rfl rfl ?c1 ?c2 (by decide) ?c3 ?c4 ?c5 _ rfl ?_)
        case c1 => exact news_one _ (by simp) _ _
        case c2 => intro u hu; simp at hu; subst hu; rfl
        case c3 => unfold maxLen; omega
        case c4 => omega
        case c5 => have := HB.out.nw.size; simp; omega
        intro g3 cap3 w3 hown3 hgrow3 hat3 hlt3
        have HB3 : Hid (Nb w2 w3 (.slice (some ⟨g3, 0, none⟩) (i + 1) cap3) (numTo ks i ++ [(c : Int)])) := by
          have := (HB.out.next ((Kp.refl _ _).alloc _)).more hgrow3 (by rw [hlen]; exact hown3)
          exact this
        clear hown3 hgrow3 hat3
        go_wp2
        go_roundg (l.length - (i + 1))
        case measure => rw [HM.out]; omega
        case rel => exact ⟨i + 1, by rw [HC.out]; simp, by simp, rfl, by omega, by rw [HN.out]; exact HB3.out⟩
       | false =>
        have HN : Hid (numTo ks (i + 1) = numTo ks i ++ [-1]) := by
          show _ = _
          have : ¬ ks[i]? = some true := fun h => by have := HKI.out.1 h; simp at this
          simp [numTo, this]
        have HC : Hid (cntTo ks (i + 1) = cntTo ks i) := by
          show _ = _
          have : ¬ ks[i]? = some true := fun h => by have := HKI.out.1 h; simp at this
          simp [cntTo, this]
        clear HKI
        generalize hc : cntTo ks i = c at *
        go_wp2_with (at_builtin; refine wpList_append_lies _ rfl _ _ 217 rfl w2.heap.size 3 i1 (.int .i64 0) 1 8 unNumb hi1 hy0 hy1 hy2 rfl (by decide) _ _ _ rfl (HB.out.own.alloc _) ⟨wr.heap.size, 0, none⟩ 1 1 [.int .i64 (-1)] rfl rfl ?c1 ?c2 (by decide) ?c3 ?c4 ?c5 _ rfl ?_)
        case c1 => exact news_one _ (by simp) _ _
        case c2 => intro u hu; simp at hu; subst hu; rfl
        case c3 => unfold maxLen; omega
        case c4 => omega
        case c5 => have := HB.out.nw.size; simp; omega
        intro g3 cap3 w3 hown3 hgrow3 hat3 hlt3
        have HB3 : Hid (Nb w2 w3 (.slice (some ⟨g3, 0, none⟩) (i + 1) cap3) (numTo ks i ++ [-1])) := by
          have := (HB.out.next ((Kp.refl _ _).alloc _)).more hgrow3 (by rw [hlen]; exact hown3)
          exact this
        clear hown3 hgrow3 hat3
        go_wp2
        go_roundg (l.length - (i + 1))
        case measure => rw [HM.out]; omega
        case rel => exact ⟨i + 1, by rw [HC.out], by simp, rfl, by omega, by rw [HN.out]; exact HB3.out⟩
      | false =>
        have HN : Hid (numTo ks (i + 1) = numTo ks i ++ [-1]) := by
          show _ = _
          have : ¬ ks[i]? = some true := fun h => by have := HKI.out.1 h; simp at this
          simp [numTo, this]
        have HC : Hid (cntTo ks (i + 1) = cntTo ks i) := by
          show _ = _
          have : ¬ ks[i]? = some true := fun h => by have := HKI.out.1 h; simp at this
          simp [cntTo, this]
        clear HKI
        generalize hc : cntTo ks i = c at *
        go_wp2_with (at_builtin; refine wpList_append_lies _ rfl _ _ 217 rfl w2.heap.size 3 i1 (.int .i64 0) 1 8 unNumb hi1 hy0 hy1 hy2 rfl (by decide) _ _ _ rfl (HB.out.own.alloc _) ⟨wr.heap.size, 0, none⟩ 1 1 [.int .i64 (-1)] rfl rfl ?c1 ?c2 (by decide) ?c3 ?c4 ?c5 _ rfl ?_)
        case c1 => exact news_one _ (by simp) _ _
        case c2 => intro u hu; simp at hu; subst hu; rfl
        case c3 => unfold maxLen; omega
        case c4 => omega
        case c5 => have := HB.out.nw.size; simp; omega
        intro g3 cap3 w3 hown3 hgrow3 hat3 hlt3
        have HB3 : Hid (Nb w2 w3 (.slice (some ⟨g3, 0, none⟩) (i + 1) cap3) (numTo ks i ++ [-1])) := by
          have := (HB.out.next ((Kp.refl _ _).alloc _)).more hgrow3 (by rw [hlen]; exact hown3)
          exact this
        clear hown3 hgrow3 hat3
        go_wp2
        go_roundg (l.length - (i + 1))
        case measure => rw [HM.out]; omega
        case rel => exact ⟨i + 1, by rw [HC.out], by simp, rfl, by omega, by rw [HN.out]; exact HB3.out⟩
    · have ei : i = l.length := by omega
      subst ei
      go_wp2
      go_ret
      exact ⟨_, rfl, ownsBaseX' HB.out.own K2.out.size, K2.out.trans HB.out.nw⟩
theorem of_any (base gn cn:Nat) (xs:List Int) (z:Int) (w:World) (h:w.ownsRow base 3 1 (.slice (some ⟨gn,0,none⟩) xs.length cn) xs.length (numC xs)) (hz:0≤z) (hn:xs.length≤1000) :
  Calls Tryz.prog 120 #[.slice (some ⟨gn,0,none⟩) xs.length cn,.int .i64 z] w fun e w'=>e=.returned (.int .i64 (nowAt xs z))∧w'=w:=by
 obtain ⟨k,rfl⟩:∃k:Nat,z=k:=⟨z.toNat,by omega⟩
 by_cases hk:k<xs.length
 ·obtain ⟨y,hy⟩:∃y,xs[k]? = some y:=⟨xs[k],by simp [hk]⟩
  have c:w.cell? ⟨gn,k,none⟩=some (.int .i64 y):=owns_cell h k (by rw [numC_get,hy];rfl)
  have hv:nowAt xs k=y:=by simp [nowAt,hy]
  go_enter Tryz.func120,Tryz.ntmps120
  go_wp2
  go_ret
  exact ⟨by rw [hv];rfl,rfl⟩
 ·have hv:nowAt xs k = -1:=by
   have:xs[k]? = none:=by simp;omega
   simp [nowAt,this]
  have hk2:xs.length≤k:=by omega
  go_enter Tryz.func120,Tryz.ntmps120
  go_wp2
  go_ret
  exact ⟨by rw [hv];rfl,rfl⟩
theorem Tryz.rowI2:(Tryz.prog.underlying 40).map TypeDesc.isRow=some true:=by kernel_rfl
theorem Tryz.sizeI2:(Tryz.prog.info? 40).map (·.size)=some 14:=by kernel_rfl
theorem range_n2 (w:World) (cs:List Value) (t:TypeId) {B:Nat} (hB:B=w.heap.size):(w.alloc (.cells cs.toArray t)).rangeAt B 0 cs:=by
 subst hB
 intro j v hv
 rw [Nat.zero_add,World.cell?_alloc_at (w:=w) cs.toArray t _ j rfl]
 simpa using hv
theorem results_c2 {fn:Func} {a:Tmp} {t:TypeId} (h:fn.results=#[.cell a t]) (tmps:Array Value) (P:Program) (w:World) (b:Addr) (hp:tmps.getD a undef=.pointer (some b)) (v:Value) (hl:(loadVar t b).run P w=.ok v w):(results fn tmps).run P w=.ok v w:=by
 have hp':tmps[a]?.getD undef=.pointer (some b):=by simpa using hp
 simp [results,h,hp',asAddr,hl]
def splitN (a b:Int):In:=if a = -1 then ⟨4,b,0,tst0⟩ else if b = -1 then ⟨4,a,0,tst0⟩ else ⟨5,a,b,tst0⟩
theorem splitAnew_any (a b:Int) (w:World) :
  Calls Tryz.prog 170 #[.int .i64 a,.int .i64 b] w fun e w'=>e=.returned (insV (splitN a b))∧Nw w w':=by
 obtain ⟨dd,hu,hd⟩:=Option.map_eq_some_iff.1 Tryz.rowI2
 by_cases ha:a = -1
 ·have e1:splitN a b=⟨4,b,0,tst0⟩:=by simp [splitN,ha]
  rw [e1]
  subst ha
  go_enter Tryz.func170,Tryz.ntmps170
  go_wp2
  refine bodyPost_ret (v:=insV ⟨4,b,0,tst0⟩) (results_c2 Tryz.results170 _ _ _ ⟨w.heap.size,0,none⟩ rfl _ (run_loadVar_mid _ w.heap.size 0 40 (insC ⟨4,b,0,tst0⟩) dd (range_n2 _ (insC ⟨4,b,0,tst0⟩) _ (by simp)) hu hd Tryz.sizeI2)) rfl ?_
  exact ⟨rfl,(Kp.refl _ _).alloc _⟩
 ·by_cases hb:b = -1
  ·have e1:splitN a b=⟨4,a,0,tst0⟩:=by simp [splitN,ha,hb]
   rw [e1]
   subst hb
   go_enter Tryz.func170,Tryz.ntmps170
   go_wp2
   refine bodyPost_ret (v:=insV ⟨4,a,0,tst0⟩) (results_c2 Tryz.results170 _ _ _ ⟨w.heap.size,0,none⟩ rfl _ (run_loadVar_mid _ w.heap.size 0 40 (insC ⟨4,a,0,tst0⟩) dd (range_n2 _ (insC ⟨4,a,0,tst0⟩) _ (by simp)) hu hd Tryz.sizeI2)) rfl ?_
   exact ⟨rfl,(Kp.refl _ _).alloc _⟩
  ·have e1:splitN a b=⟨5,a,b,tst0⟩:=by simp [splitN,ha,hb]
   rw [e1]
   go_enter Tryz.func170,Tryz.ntmps170
   go_wp2
   refine bodyPost_ret (v:=insV ⟨5,a,b,tst0⟩) (results_c2 Tryz.results170 _ _ _ ⟨w.heap.size,0,none⟩ rfl _ (run_loadVar_mid _ w.heap.size 0 40 (insC ⟨5,a,b,tst0⟩) dd (range_n2 _ (insC ⟨5,a,b,tst0⟩) _ (by simp)) hu hd Tryz.sizeI2)) rfl ?_
   exact ⟨rfl,(Kp.refl _ _).alloc _⟩
def zIn:In:=⟨0,0,0,tst0⟩
theorem insC_one (x:In):∀u∈insC x,u.oneCell'=true:=by
 intro u hu
 simp only [insC,List.mem_cons,List.not_mem_nil,or_false] at hu
 rcases hu with h|h|h|h|h|h|h|h|h|h|h|h|h|h <;> subst h <;> rfl
theorem size_insA (x:In):(Tryz.prog.info? 40).map (·.size)=some (insC x).toArray.size:=Tryz.sizeI2
theorem trimI_jump {now:List Int} {x:In} (h:x.op=4):trimI now x=⟨4,nowAt now x.a,0,tst0⟩:=by simp [trimI,h]
theorem trimI_split {now:List Int} {x:In} (h:x.op=5):trimI now x=splitN (nowAt now x.a) (nowAt now x.b):=by simp [trimI,h,splitN]
theorem trimI_else {now:List Int} {x:In} (h4:¬x.op=4) (h5:¬x.op=5):trimI now x=x:=by simp [trimI,h4,h5]
theorem targetsAnew_any (base gn cn:Nat) (xs:List Int) (x:In) (w:World) (h:w.ownsRow base 3 1 (.slice (some ⟨gn,0,none⟩) xs.length cn) xs.length (numC xs)) (hn:xs.length≤1000) (h4:x.op=4→0≤x.a∧x.b=0∧x.test=tst0) (h5:x.op=5→0≤x.a∧0≤x.b) :
  Calls Tryz.prog 121 #[.slice (some ⟨gn,0,none⟩) xs.length cn,insV x] w fun e w'=>e=.returned (insV (trimI xs x))∧Nw w w':=by
 obtain ⟨dd,hu,hd⟩:=Option.map_eq_some_iff.1 Tryz.rowI2
 have HOF:Hid (∀(z:Int) (W:World),0≤z→Nw w W→Calls Tryz.prog 120 #[.slice (some ⟨gn,0,none⟩) xs.length cn,.int .i64 z] W fun e w'=>e=.returned (.int .i64 (nowAt xs z))∧w'=W):=fun z W hz k=>of_any base gn cn xs z W (owns_kp h k (fun _ _ h=>h)) hz hn
 by_cases c4:x.op=4
 ·obtain ⟨ha,hb,ht⟩:=h4 c4
  obtain ⟨xo,xa,xb,xt⟩:=x
  dsimp only at c4 ha hb ht
  subst c4 hb ht
  rw [trimI_jump rfl]
  simp only [insV,tst0,tm0]
  go_enter Tryz.func121,Tryz.ntmps121
  go_wp2_with fail
  refine (HOF.out xa _ ha (((Kp.refl _ _).alloc _).alloc _)).mono ?_
  rintro e w1 ⟨rfl,rfl⟩
  go_wp2
  refine bodyPost_ret (v:=insV ⟨4,nowAt xs xa,0,tst0⟩) (results_c2 Tryz.results121 _ _ _ ⟨w.heap.size+1,0,none⟩ rfl _ (run_loadVar_mid _ (w.heap.size+1) 0 40 (insC ⟨4,nowAt xs xa,0,tst0⟩) dd (range_n2 _ (insC ⟨4,nowAt xs xa,0,tst0⟩) _ (by simp)) hu hd Tryz.sizeI2)) rfl ?_
  exact ⟨rfl,((Kp.refl _ _).alloc _).alloc _⟩
 ·by_cases c5:x.op=5
  ·obtain ⟨ha,hb⟩:=h5 c5
   rw [trimI_split c5]
   obtain ⟨xo,xa,xb,xt⟩:=x
   dsimp only at c5 ha hb ⊢
   subst c5
   generalize hY:splitN (nowAt xs xa) (nowAt xs xb)=Y
   have HB0:Hid (∀(o:Obj) (W:World),Nw ((w.alloc o).alloc (.cells (insC zIn).toArray 40)) W→Bx W (w.heap.size+1) (insC zIn)):=by
    intro o W k
    have h1:=Bx.new (w.alloc o) (insC zIn) 40
    have e1:(w.alloc o).heap.size=w.heap.size+1:=by simp
    rw [e1] at h1
    exact h1.kp (by simp [insC]) k (fun h=>h)
   simp only [zIn,insC,tst0,tm0,List.toArray] at HB0
   simp only [insV]
   clear h4 h5 c4
   go_enter Tryz.func121,Tryz.ntmps121
   go_wp2_with fail
   refine (HOF.out xa _ ha (((Kp.refl _ _).alloc _).alloc _)).mono ?_
   rintro e w1 ⟨rfl,rfl⟩
   go_wp2_with fail
   refine (HOF.out xb _ hb (((Kp.refl _ _).alloc _).alloc _)).mono ?_
   rintro e w1 ⟨rfl,rfl⟩
   go_wp2_with fail
   refine (splitAnew_any _ _ _).mono ?_
   rw [hY]
   rintro e w2 ⟨rfl,k2⟩
   have B2:Hid (Bx w2 (w.heap.size+1) (insC zIn)):=HB0.out _ w2 k2
   have K2:Hid (Nw w w2):=(((Kp.refl _ _).alloc _).alloc _).trans k2
   clear HB0 k2
   have HT:Hid (w2.there (w.heap.size+1) 0 (insC Y).toArray.size):=by
    have:=B2.out.there (n:=(insC Y).length) (by simp [insC])
    show World.there _ _ _ _
    simpa using this
   go_wp2_with (first|(with_reducible (show Go.wpList _ _ _ ({ dst:=_,op:=Op.store 40 _ _,type:=_,pos:=_,after:=_,guard:=_ }::_) _ _);refine wpList_store_mid rfl 40 _ _ rfl (w.heap.size+1) 0 (insC Y).toArray rfl rfl HT.out (size_insA _) (all_oneCell_toArray (insC_one _)) ?_)|fail)
   refine bodyPost_ret (v:=insV Y) (results_c2 Tryz.results121 _ _ _ ⟨w.heap.size+1,0,none⟩ rfl _ (run_loadVar_mid _ (w.heap.size+1) 0 40 (insC Y) dd (B2.out.put (vs:=insC Y) (by simp [insC])).r hu hd Tryz.sizeI2)) rfl ?_
   exact ⟨rfl,K2.out.trans' (kp_setCells _ 0 _) (by intro b hb e;omega)⟩
  ·rw [trimI_else c4 c5]
   simp only [insV]
   go_enter Tryz.func121,Tryz.ntmps121
   go_wp2
   refine bodyPost_ret (v:=insV x) (results_c2 Tryz.results121 _ _ _ ⟨w.heap.size+1,0,none⟩ rfl _ (run_loadVar_mid _ (w.heap.size+1) 0 40 (insC x) dd (range_n2 _ (insC x) _ (by simp)) hu hd Tryz.sizeI2)) rfl ?_
   exact ⟨rfl,((Kp.refl _ _).alloc _).alloc _⟩
theorem keep_now {ks:List Bool} {n i:Nat} (hi:i<n):nowAt (numTo ks n) i = -1↔¬ks[i]? = some true:=by
 have h:=nowAt_num (ks:=ks) (n:=n) (a:=(i:Int)) (by simpa using hi)
 rw [h]
 simp only [Int.toNat_natCast]
 split
 ·rename_i c;simp [c]
 ·rename_i c;simp [c]
def TrimPost (l:List In) (w:World) (e:Ending) (w':World):Prop :=
 ∃(v:Value) (f:Int) (out:List In),e=.returned (.tuple #[v,.int .i64 f])∧TrimIs l f out∧w'.ownsRow w.heap.size 40 14 v out.length (codeC out)∧Nw w w'
theorem trimP_any (p:Option Addr) (cap:Nat) (l:List In) (w:World) (hp:CodeP w p l) (hl:l.length≤maxLen) :
  Calls Tryz.prog 77 #[.slice p l.length cap] w (TrimPost l w):=by
 obtain ⟨i0,hi0,hz0,hz1,hz2⟩:=info_parts Tryz.info40
 go_enter Tryz.func77,Tryz.ntmps77
 go_wp2_with fail
 refine (validP_any p cap l w hp hl).mono ?_
 rintro e w1 ⟨a,b,rfl,hv,k1⟩
 have HV:Hid (ValidIs l a b):=hv
 have K1:Hid (Nw w w1):=k1
 have HP1:Hid (CodeP w1 p l):=hp.nw k1
 clear hv k1 hp
 by_cases ha:a=0
 ·subst ha
  obtain ⟨hn,hne,hA⟩:=HV.out.all
  have h0:0<l.length:=List.length_pos_iff.2 hne
  obtain ⟨g,rfl,C1⟩:=HP1.out hne
  obtain ⟨ks,hk⟩:=KeepIs.exists l
  have HA:Hid (AllIns l):=hA
  have HK:Hid (KeepIs l ks):=hk
  have HC1:Hid (Code' w1 g l):=C1
  clear hA hk C1 HP1 hne
  go_wp2_with fail
  refine (numberAnew_any g cap l ks w1 HC1.out HA.out h0 hn HK.out).mono ?_
  rintro e w2 ⟨nv,rfl,hN⟩
  have hnl:(numTo ks l.length).length=l.length:=numTo_length ks l.length
  obtain ⟨gn,cn,rfl⟩:=owns_some hN.own (by rw [hnl];exact h0)
  have HOF:Hid (∀(z:Int) (W:World),0≤z→Nw w2 W→Calls Tryz.prog 120 #[.slice (some ⟨gn,0,none⟩) l.length cn,.int .i64 z] W fun e w'=>e=.returned (.int .i64 (nowAt (numTo ks l.length) z))∧w'=W):=by
   intro z W hz k
   have:=of_any w1.heap.size gn cn (numTo ks l.length) z W (owns_kp hN.own k (fun _ _ h=>h)) hz (by omega)
   rwa [hnl] at this
  have HTG:Hid (∀(i:Nat) (x:In) (W:World),l[i]? = some x→Nw w2 W→Calls Tryz.prog 121 #[.slice (some ⟨gn,0,none⟩) l.length cn,insV x] W fun e w'=>e=.returned (insV (trimI (numTo ks l.length) x))∧Nw W w'):=by
   intro i x W hx k
   have:=targetsAnew_any w1.heap.size gn cn (numTo ks l.length) x W (owns_kp hN.own k (fun _ _ h=>h)) (by omega) (fun h4=>by obtain ⟨a1,_,a3,a4⟩:=ins_jump HA.out hx h4;exact ⟨a1,a3,a4⟩) (fun h5=>by obtain ⟨a1,_,a3,_⟩:=ins_split HA.out hx h5;exact ⟨a1,a3⟩)
   rwa [hnl] at this
  have HKN:Hid (∀i:Nat,i<l.length→(nowAt (numTo ks l.length) i = -1↔¬ks[i]? = some true)):=fun i hi=>keep_now hi
  have K2:Hid (Nw w w2):=K1.out.trans hN.nw
  have C2:Hid (Code' w2 g l):=HC1.out.kp hN.nw (fun h=>h)
  have HT9:Hid (¬ks[0]? = some true→TrimIs l 9 []):=fun h=>⟨0,b,HV.out,Or.inr ⟨rfl,ks,HK.out,Or.inl ⟨h,rfl,rfl⟩⟩⟩
  have HT0:Hid (ks[0]? = some true→TrimIs l 0 (trimTo (numTo ks l.length) ks l l.length)):=fun h=>⟨0,b,HV.out,Or.inr ⟨rfl,ks,HK.out,Or.inr ⟨h,rfl,rfl⟩⟩⟩
  have HN0:Hid (ks[0]? = some true→nowAt (numTo ks l.length) 0=0):=by
   intro h
   rw [nowAt_num (by simpa using h0)]
   simp [h,cntTo]
  rw [hnl]
  generalize numTo ks l.length=now at HOF HTG HKN HT0 HN0
  clear hN HC1 K1 HV HK HA hnl
  go_wp2_with fail
  refine (HOF.out 0 w2 (by omega) (Kp.refl _ _)).mono ?_
  rintro e w3 ⟨rfl,rfl⟩
  by_cases hk0:ks[0]? = some true
  ·rw [HN0.out hk0]
   have HT:Hid (TrimIs l 0 (trimTo now ks l l.length)):=HT0.out hk0
   clear HT9 HT0
   go_wp2
   go_loopg [7,8] l.length (fun m v7 v8 wr=>∃i:Nat,v8=.int .i64 i∧m=l.length - i∧i≤l.length∧Hb w3 wr w3.heap.size v7 (trimTo now ks l i))
   case atStart=>exact ⟨0,rfl,rfl,by omega,⟨World.ownsRow_nil _ _ _ _,Kp.refl _ _⟩⟩
   case round =>
    obtain ⟨i,rfl,hm,hil,hB⟩:=hrel
    have HM:Hid (_=l.length - i):=hm
    have HB:Hid (Hb w3 wr w3.heap.size u7 (trimTo now ks l i)):=hB
    clear hm
    by_cases hi':i<l.length
    ·obtain ⟨x,hx⟩:∃x,l[i]? = some x:=⟨l[i],by simp [hi']⟩
     have HX:Hid (l[i]? = some x):=hx
     have HLE:Hid ((trimTo now ks l i).length≤i):=trimTo_len now ks l i
     go_wp2_with fail
     refine (HOF.out i wr (by omega) hB.nw).mono ?_
     rintro e w4 ⟨rfl,rfl⟩
     by_cases hki:ks[i]? = some true
     ·have hne:¬nowAt now i = -1:=fun h=>(HKN.out i hi').1 h hki
      have HTK:Hid (trimTo now ks l (i+1)=trimTo now ks l i++[trimI now x]):=trimTo_keep hki hx
      generalize nowAt now i=ni at hne ⊢
      generalize trimTo now ks l i=lA at HB HLE HTK
      obtain ⟨d0,d1,d2,d3,d4,d5,d6,d7,d8,d9,d10,d11,d12,d13⟩:=((C2.out.kp hB.nw (fun h=>h)).ins i x hx).cells
      have HN4:Hid (Nw w3 w4):=hB.nw
      clear hx hki hB
      go_wp2_with fail
      refine (HTG.out i x w4 HX.out HN4.out).mono ?_
      rintro e w5 ⟨rfl,k5⟩
      have B5:Hid (Hb w3 w5 w3.heap.size u7 lA):=HB.out.next k5
      have h35:w3.heap.size≤w5.heap.size:=B5.out.nw.size
      clear k5 HB HN4 d0 d1 d2 d3 d4 d5 d6 d7 d8 d9 d10 d11 d12 d13
      generalize trimI now x=Y at HTK ⊢
      simp only [insV]
      go_wp2_with (at_builtin;refine wpList_append_lies _ rfl _ _ 28 rfl w3.heap.size 40 i0 (.agg #[.int .i64 0,.int .i64 0,.int .i64 0,.int .i64 0,.int .i64 0,.int .i64 0,.int .i64 0,.int .i64 0,.int .i64 0,.int .i64 0,.int .i64 0,.int .i64 0,.int .i64 0,.int .i64 0]) 14 112 Tryz.underlying28 hi0 hz0 hz1 hz2 rfl (by decide) _ _ _ rfl ((B5.out.own.alloc _).alloc _) ⟨w5.heap.size+1,0,none⟩ 1 1 (insC Y) rfl rfl (news_two3 w5 _ _ _) (oneCellsI _) (by decide) (by unfold maxLen;have:=HLE.out;omega) (by have:=HLE.out;omega) (by simp;omega) _ rfl ?_)
      intro g3 cap3 w6 hown3 hgrow3 hat3 hlt3
      have B6:Hid (Hb w3 w6 w3.heap.size (.slice (some ⟨g3,0,none⟩) (lA.length+1) cap3) (lA++[Y])):=(B5.out.next (((Kp.refl _ _).alloc _).alloc _)).more rfl hgrow3 hown3
      clear hown3 hgrow3 hat3
      go_wp2
      go_roundg (l.length - (i+1))
      case measure=>rw [HM.out];omega
      case rel=>exact ⟨i+1,by simp,rfl,by omega,by rw [HTK.out];exact B6.out⟩
     ·have he:nowAt now i = -1:=(HKN.out i hi').2 hki
      have HTK:Hid (trimTo now ks l (i+1)=trimTo now ks l i):=trimTo_skip hki
      rw [he]
      clear hB
      go_wp2
      go_roundg (l.length - (i+1))
      case measure=>rw [HM.out];omega
      case rel=>exact ⟨i+1,by simp,rfl,by omega,by rw [HTK.out];exact HB.out⟩
    ·have ei:i=l.length:=by omega
     subst ei
     go_wp2
     go_ret2
     exact ⟨_,0,_,rfl,HT.out,ownsBaseX HB.out.own K2.out.size,K2.out.trans HB.out.nw⟩
  ·have he:nowAt now 0 = -1:=(HKN.out 0 h0).2 hk0
   have HT:Hid (TrimIs l 9 []):=HT9.out hk0
   rw [he]
   go_wp2
   go_ret2
   exact ⟨_,9,[],rfl,HT.out,World.ownsRow_nil _ _ _ _,K2.out⟩
 ·have HB:Hid (TrimPost l w (.returned (.tuple #[.slice none 0 0,.int .i64 a])) w1):=⟨_,a,[],rfl,⟨a,b,HV.out,Or.inl ⟨ha,rfl,rfl⟩⟩,World.ownsRow_nil _ _ _ _,K1.out⟩
  go_wp2
  go_ret2
  exact HB.out
theorem trimS_any (p:Option Addr) (cap:Nat) (l:List In) (w:World) (hp:CodeP w p l) (hl:l.length≤maxLen) :
  Calls Tryz.prog 51 #[.slice p l.length cap] w (TrimPost l w):=by
 go_enter Tryz.func51,Tryz.ntmps51
 go_wp2_with fail
 refine (trimP_any p cap l w hp hl).mono ?_
 rintro e w2 ⟨v,f,out,rfl,hv⟩
 go_wp2
 go_ret2
 exact ⟨v,f,out,rfl,hv⟩
end Go.Proofs.YtcboiapggnmpfaaGreat
