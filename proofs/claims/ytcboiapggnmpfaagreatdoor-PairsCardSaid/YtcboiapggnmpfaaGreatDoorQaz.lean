import Derived.Test.YtcboiapggnmpfaaGreatDoorQay
namespace Go.Proofs.YtcboiapggnmpfaaGreatDoor
set_option maxRecDepth 100000
set_option maxHeartbeats 4000000
set_option linter.unusedSimpArgs false
set_option linter.unusedVariables false
open Go.RowKit
open Value (int)
def ProgR (l:List Int) (nm kd:Nat→Int) (x:Spo) (i:Nat) (y:St):Prop :=
 (y.kind=4∨hasK l y.kind=true)∧(y.name = -1∨NameR nm kd x.1 x.2.2 i y.kind y.name)∧∀q∈y.tests,TestR l nm kd x.2.1 i y.kind q
def FWPost (l:List Int) (t:Nt) (L:List (St×Value)) (w:World) (e:Ending) (w':World):Prop :=
 ∃(ss:List Spo) (k:Nat),e=.returned (.int .i64 k)∧k≤L.length∧(∀j x,ss[j]? = some x→LeafIs t j x)∧ss.length=L.length∧(∀j x y,j<k→ss[j]? = some x→L[j]? = some y→ProgR l (nmL L) (kdL L) x j y.1)∧(∀x y,ss[k]? = some x→L[k]? = some y→¬ProgR l (nmL L) (kdL L) x k y.1)∧Nw w w'
theorem owns_capX {w:World} {base n size g c:Nat} {e:TypeId} {xs:List Value} (h:w.ownsRow base e size (.slice (some ⟨g,0,none⟩) n c) n xs):n≤c∧c≤maxLen:=by
 rcases h.2 with ⟨h2,_⟩ | ⟨g',cap',cur,h2,_,h3,h4,h5,_⟩
 ·simp at h2
 ·simp at h2
  obtain ⟨rfl,rfl⟩:=h2
  exact ⟨h4,h5⟩
theorem firstWrong_any (l : List Int) (hl : l.length ≤ 4) (t : Nt) (nv sv : Value) (wb : Bool) (wi : Int) (L : List (St × Value)) (w : World) (h : PatM w nv sv (t.nd 0 0) L) (hL : L.map Prod.fst = t.steps) (hsz : t.size ≤ 10000) (hops : t.Ops) (htn : ∀ x ∈ L, x.1.tests.length ≤ 10000) (htb : ∀ x ∈ L, ∀ q ∈ x.1.tests, TstB q) :
    Calls Tryz.prog 42 #[schV l, .agg #[nv, sv, .bool wb, .int .i64 wi]] w (FWPost l t L w) := by
  have hpos := t.size_pos
  have hspos := t.steps_pos
  have hsle := t.steps_le
  obtain ⟨gn, cn, hnv⟩ := owns_someX h.nodes (by rw [Nt.nd_length]; exact hpos)
  obtain ⟨gs, cs, hsv⟩ := owns_someX h.steps (by have := congrArg List.length hL; simp at *; omega)
  subst hnv hsv
  have hbn := h.nodes.lt gn rfl
  have hbs := h.steps.lt gs rfl
  have hcap := owns_capX h.steps
  unfold maxLen at hcap
  obtain ⟨hcap1, hcap2⟩ := hcap
  have hnl := t.nd_length 0 0
  have hLl : L.length = t.steps.length := by rw [← hL]; simp
  have hL10 : L.length ≤ 10000 := by omega
  have HP : Hid (∀ W, Nw w W → PatM W (.slice (some ⟨gn, 0, none⟩) (t.nd 0 0).length cn) (.slice (some ⟨gs, 0, none⟩) L.length cs) (t.nd 0 0) L) := fun W kW => h.nw kW
  have HSP : Hid (∀ W, Nw w W → Calls Tryz.prog 64 #[.agg #[.slice (some ⟨gn, 0, none⟩) t.size cn, .slice (some ⟨gs, 0, none⟩) L.length cs, .bool wb, .int .i64 wi]] W (SpotPost t W)) := by
    intro W kW
    have := spots_any t _ _ wb wi L W (h.nw kW) hL hsz hops
    rw [hnl] at this
    exact this
  have HHK : Hid (∀ a W, Calls Tryz.prog 65 #[schV l, .int .i64 a] W fun e w' => e = .returned (.bool (hasK l a)) ∧ Nw W w') := fun a W => has_any l a W hl
  have HNR : Hid (∀ (i : Nat) (y : St × Value) (tp : Option Addr) (tn tc : Nat) (M S : Nat) (rep : Bool) W, Nw w W → i ≤ L.length → M < 2 ^ 26 → Calls Tryz.prog 66 #[.slice (some ⟨gs, 0, none⟩) i cs, .agg #[.int .i64 y.1.pos, .int .i64 y.1.kind, .int .i64 y.1.name, .slice tp tn tc], .agg #[.int .i64 M, .int .i64 S, .bool rep]] W (SayP W (NameR (nmL L) (kdL L) M rep i y.1.kind y.1.name))) :=
    fun i y tp tn tc M S rep W kW hi hM => nameR_any gs i cs (nmL L) (kdL L) y.1.pos y.1.kind y.1.name tp tn tc M S hM rep W ((h.nw kW).sts.le hi) (by omega)
  have HTE : Hid (∀ (i : Nat) (y : St × Value) (S : Nat) W, Nw w W → y ∈ L → i ≤ L.length → S < 2 ^ 26 → Calls Tryz.prog 67 #[schV l, .slice (some ⟨gs, 0, none⟩) i cs, .agg #[.int .i64 y.1.pos, .int .i64 y.1.kind, .int .i64 y.1.name, y.2], .int .i64 S] W (SayP W (∀ q ∈ y.1.tests, TestR l (nmL L) (kdL L) S i y.1.kind q))) :=
    fun i y S W kW hy hi hS => testsR_any l hl gs i cs (nmL L) (kdL L) S hS y.1.pos y.1.kind y.1.name y.2 y.1.tests (htb y hy) W ((h.nw kW).sts.le hi) (by omega) ((h.nw kW).tests y hy) (htn y hy)
  have HLL : Hid (L.length = t.steps.length) := hLl
  clear h hL htn htb hLl hspos hsle
  rw [hnl]
  clear hnl
  unfold schV at *
  go_enter Tryz.func42, Tryz.ntmps42
  go_wp2_with fail
  refine (HSP.out _ (((Kp.refl _ w).alloc _).alloc _)).mono ?_
  rintro e w1 ⟨ss, g, rfl, hssl, hleaf, hrow, hgw, k1⟩
  rw [← HLL.out] at hssl ⊢
  have HLF : Hid (∀ k x, ss[k]? = some x → LeafIs t k x) := hleaf
  have HSL : Hid (ss.length = L.length) := hssl
  have HROW : Hid (Row w1 g 152 (spotsC ss)) := hrow
  have hgl := hrow.lt
  obtain ⟨b1, b2, hl1, kk⟩ := box2 k1
  have K1 : Hid (Nw w w1) := kk
  have HB1 : Hid (∀ W, Nw w1 W → (W.cell? ⟨w.heap.size, 0, none⟩ = some (.int .i64 l.length) ∧ W.cell? ⟨w.heap.size, 1, none⟩ = some (.int .i64 (scF l 0)) ∧ W.cell? ⟨w.heap.size, 2, none⟩ = some (.int .i64 (scF l 1)) ∧ W.cell? ⟨w.heap.size, 3, none⟩ = some (.int .i64 (scF l 2)) ∧ W.cell? ⟨w.heap.size, 4, none⟩ = some (.int .i64 (scF l 3)) ∧ W.cell? ⟨w.heap.size + 1, 1, none⟩ = some (.slice (some ⟨gs, 0, none⟩) L.length cs))) := by
    intro W kW
    have y0 : w.heap.size < w1.heap.size := by omega
    exact ⟨(kW.cell y0 (fun h => h)).trans (b1 0 _ rfl), (kW.cell y0 (fun h => h)).trans (b1 1 _ rfl), (kW.cell y0 (fun h => h)).trans (b1 2 _ rfl), (kW.cell y0 (fun h => h)).trans (b1 3 _ rfl), (kW.cell y0 (fun h => h)).trans (b1 4 _ rfl), (kW.cell hl1 (fun h => h)).trans (b2 1 _ rfl)⟩
  clear hrow k1 kk b1 b2 hleaf hssl HSP
  go_wp2
  go_loopg [6] L.length (fun m v6 wr => ∃ i : Nat, v6 = .int .i64 i ∧ m = L.length - i ∧ i ≤ L.length ∧ (∀ j x y, j < i → ss[j]? = some x → L[j]? = some y → ProgR l (nmL L) (kdL L) x j y.1) ∧ Nw w1 wr)
  case atStart => exact ⟨0, rfl, rfl, by omega, (fun j x y hj => by omega), Kp.refl _ _⟩
  case round =>
    obtain ⟨i, rfl, hm, hi, hall, hk⟩ := hrel
    have HM : Hid (_ = L.length - i) := hm
    have HA : Hid (∀ j x y, j < i → ss[j]? = some x → L[j]? = some y → ProgR l (nmL L) (kdL L) x j y.1) := hall
    have HK : Hid (Nw w1 wr) := hk
    have HKW : Hid (Nw w wr) := K1.out.trans hk
    obtain ⟨c0, c1, c2, c3, c4, q1⟩ := HB1.out wr hk
    have hws := hk.size
    clear hm hall hk
    by_cases hil : i < L.length
    · obtain ⟨y, hy⟩ : ∃ y, L[i]? = some y := ⟨_, List.getElem?_eq_getElem hil⟩
      obtain ⟨x, hx⟩ : ∃ x, ss[i]? = some x := ⟨_, List.getElem?_eq_getElem (by rw [HSL.out]; exact hil)⟩
      have HPW := HP.out wr HKW.out
      obtain ⟨s0, s1, s2, s3⟩ := HPW.step hy
      obtain ⟨tp, tc, htv⟩ := ownsLenX (HPW.tests y (List.mem_of_getElem? hy))
      have HTV : Hid (y.2 = .slice tp y.1.tests.length tc) := htv
      rw [htv] at s3
      have hsm := (HLF.out i x hx).maybe.lt
      have hss := (HLF.out i x hx).surely.lt
      obtain ⟨xm, xs, xr⟩ := x
      simp only at hsm hss
      have hRW := HROW.out.kp HK.out (fun h => h)
      have e0 : wr.cell? ⟨g, i * 3, none⟩ = some (.int .i64 xm) := by rw [hRW.cell, ← Nat.add_zero (i * 3), spotsC_get ss i 0 _ hx (by omega)]; rfl
      have e1 : wr.cell? ⟨g, i * 3 + 1, none⟩ = some (.int .i64 xs) := by rw [hRW.cell, spotsC_get ss i 1 _ hx (by omega)]; rfl
      have e2 : wr.cell? ⟨g, i * 3 + 2, none⟩ = some (.bool xr) := by rw [hRW.cell, spotsC_get ss i 2 _ hx (by omega)]; rfl
      have HY : Hid (L[i]? = some y) := hy
      have HX : Hid (ss[i]? = some (xm, xs, xr)) := hx
      have HNX : Hid (∀ e W, (¬ ProgR l (nmL L) (kdL L) (xm, xs, xr) i y.1) → Nw w W → e = .returned (.int .i64 i) → FWPost l t L w e W) := by
        intro e W hno kW he
        refine ⟨ss, i, he, by omega, HLF.out, HSL.out, HA.out, ?_, kW⟩
        intro x' y' hx' hy'
        rw [HX.out] at hx'
        rw [HY.out] at hy'
        simp only [Option.some.injEq] at hx' hy'
        subst hx'
        subst hy'
        exact hno
      have HAX : Hid (ProgR l (nmL L) (kdL L) (xm, xs, xr) i y.1 → ∀ j x' y', j < i + 1 → ss[j]? = some x' → L[j]? = some y' → ProgR l (nmL L) (kdL L) x' j y'.1) := by
        intro hyes j x' y' hj hx' hy'
        by_cases e : j = i
        · subst e
          rw [HX.out] at hx'
          rw [HY.out] at hy'
          simp only [Option.some.injEq] at hx' hy'
          subst hx'
          subst hy'
          exact hyes
        · exact HA.out j x' y' (by omega) hx' hy'
      have HPR : Hid (ProgR l (nmL L) (kdL L) (xm, xs, xr) i y.1 ↔ ((y.1.kind = 4 ∨ hasK l y.1.kind = true) ∧ (y.1.name = -1 ∨ NameR (nmL L) (kdL L) xm xr i y.1.kind y.1.name) ∧ ∀ q ∈ y.1.tests, TestR l (nmL L) (kdL L) xs i y.1.kind q)) := Iff.rfl
      have hgr : g < wr.heap.size := by omega
      have hgsr : gs < wr.heap.size := by omega
      clear HPW hy hx htv hRW
      have HBX : Hid (∀ W, Nw (wr.alloc (.cells #[.int .i64 y.1.pos, .int .i64 y.1.kind, .int .i64 y.1.name, .slice tp y.1.tests.length tc] 100)) W → (W.cell? ⟨w.heap.size, 0, none⟩ = some (.int .i64 l.length) ∧ W.cell? ⟨w.heap.size, 1, none⟩ = some (.int .i64 (scF l 0)) ∧ W.cell? ⟨w.heap.size, 2, none⟩ = some (.int .i64 (scF l 1)) ∧ W.cell? ⟨w.heap.size, 3, none⟩ = some (.int .i64 (scF l 2)) ∧ W.cell? ⟨w.heap.size, 4, none⟩ = some (.int .i64 (scF l 3)) ∧ W.cell? ⟨w.heap.size + 1, 1, none⟩ = some (.slice (some ⟨gs, 0, none⟩) L.length cs) ∧ W.cell? ⟨wr.heap.size, 0, none⟩ = some (.int .i64 y.1.pos) ∧ W.cell? ⟨wr.heap.size, 1, none⟩ = some (.int .i64 y.1.kind) ∧ W.cell? ⟨wr.heap.size, 2, none⟩ = some (.int .i64 y.1.name) ∧ W.cell? ⟨wr.heap.size, 3, none⟩ = some (.slice tp y.1.tests.length tc) ∧ W.cell? ⟨g, i * 3, none⟩ = some (.int .i64 xm) ∧ W.cell? ⟨g, i * 3 + 1, none⟩ = some (.int .i64 xs) ∧ W.cell? ⟨g, i * 3 + 2, none⟩ = some (.bool xr))) := by
        intro W kW
        have kr : Nw wr W := ((Kp.refl _ wr).alloc _).trans kW
        have kb : ∀ (j : Nat) v, #[int .i64 y.1.pos, .int .i64 y.1.kind, .int .i64 y.1.name, .slice tp y.1.tests.length tc][j]? = some v → W.cell? ⟨wr.heap.size, j, none⟩ = some v := by
          intro j v hv
          rw [kW.cell (by show wr.heap.size < _; simp) (fun h => h), ← hv]
          simp [go_sem, World.cell?_alloc_at]
        have y0 : w.heap.size < wr.heap.size := by omega
        have y1 : w.heap.size + 1 < wr.heap.size := by omega
        exact ⟨(kr.cell y0 (fun h => h)).trans c0, (kr.cell y0 (fun h => h)).trans c1, (kr.cell y0 (fun h => h)).trans c2, (kr.cell y0 (fun h => h)).trans c3, (kr.cell y0 (fun h => h)).trans c4, (kr.cell y1 (fun h => h)).trans q1, kb 0 _ rfl, kb 1 _ rfl, kb 2 _ rfl, kb 3 _ rfl, (kr.cell hgr (fun h => h)).trans e0, (kr.cell hgr (fun h => h)).trans e1, (kr.cell hgr (fun h => h)).trans e2⟩
      have HHY : Hid (∀ W, Calls Tryz.prog 65 #[.agg #[.int .i64 l.length, .int .i64 (scF l 0), .int .i64 (scF l 1), .int .i64 (scF l 2), .int .i64 (scF l 3)], .int .i64 y.1.kind] W fun e w' => e = .returned (.bool (hasK l y.1.kind)) ∧ Nw W w') := fun W => HHK.out _ W
      have HNY : Hid (∀ W, Nw w W → Calls Tryz.prog 66 #[.slice (some ⟨gs, 0, none⟩) i cs, .agg #[.int .i64 y.1.pos, .int .i64 y.1.kind, .int .i64 y.1.name, .slice tp y.1.tests.length tc], .agg #[.int .i64 xm, .int .i64 xs, .bool xr]] W (SayP W (NameR (nmL L) (kdL L) xm xr i y.1.kind y.1.name))) := fun W kW => HNR.out i y tp _ tc xm xs xr W kW hi hsm
      have HTY : Hid (∀ W, Nw w W → Calls Tryz.prog 67 #[.agg #[.int .i64 l.length, .int .i64 (scF l 0), .int .i64 (scF l 1), .int .i64 (scF l 2), .int .i64 (scF l 3)], .slice (some ⟨gs, 0, none⟩) i cs, .agg #[.int .i64 y.1.pos, .int .i64 y.1.kind, .int .i64 y.1.name, .slice tp y.1.tests.length tc], .int .i64 xs] W (SayP W (∀ q ∈ y.1.tests, TestR l (nmL L) (kdL L) xs i y.1.kind q))) := by
        intro W kW
        have := HTE.out i y xs W kW (List.mem_of_getElem? HY.out) hi hss
        rw [HTV.out] at this
        exact this
      generalize hasK l y.1.kind = hkb at *
      generalize NameR (nmL L) (kdL L) xm xr i y.1.kind y.1.name = pN at *
      generalize (∀ q ∈ y.1.tests, TestR l (nmL L) (kdL L) xs i y.1.kind q) = pT at *
      generalize ProgR l (nmL L) (kdL L) (xm, xs, xr) i y.1 = pG at *
      have hiI : (i : Int) < (L.length : Int) := by omega
      have hic : (i : Int) ≤ (cs : Int) := by omega
      have hi00 : (0 : Int) ≤ (i : Int) := by omega
      have hicn : i ≤ cs := by omega
      have z0 : w.heap.size < wr.heap.size := by omega
      have z1 : ¬ w.heap.size = wr.heap.size := by omega
      have z2 : w.heap.size + 1 < wr.heap.size := by omega
      have z3 : ¬ w.heap.size + 1 = wr.heap.size := by omega
      clear HNR HTE HHK
      by_cases hk4 : y.1.kind = 4
      all_goals
        first
        | (have hk4' : (y.1.kind != 4) = false := by simp [hk4]
           have HK4 : Hid (y.1.kind = 4 ∨ hkb = true) := Or.inl hk4
           clear hk4
           go_wp2
           have HSA : Hid (∀ W, Nw (wr.alloc (.cells #[.int .i64 y.1.pos, .int .i64 y.1.kind, .int .i64 y.1.name, .slice tp y.1.tests.length tc] 100)) W → (W.cell? ⟨w.heap.size, 0, none⟩ = some (.int .i64 l.length) ∧ W.cell? ⟨w.heap.size, 1, none⟩ = some (.int .i64 (scF l 0)) ∧ W.cell? ⟨w.heap.size, 2, none⟩ = some (.int .i64 (scF l 1)) ∧ W.cell? ⟨w.heap.size, 3, none⟩ = some (.int .i64 (scF l 2)) ∧ W.cell? ⟨w.heap.size, 4, none⟩ = some (.int .i64 (scF l 3)) ∧ W.cell? ⟨w.heap.size + 1, 1, none⟩ = some (.slice (some ⟨gs, 0, none⟩) L.length cs) ∧ W.cell? ⟨wr.heap.size, 0, none⟩ = some (.int .i64 y.1.pos) ∧ W.cell? ⟨wr.heap.size, 1, none⟩ = some (.int .i64 y.1.kind) ∧ W.cell? ⟨wr.heap.size, 2, none⟩ = some (.int .i64 y.1.name) ∧ W.cell? ⟨wr.heap.size, 3, none⟩ = some (.slice tp y.1.tests.length tc) ∧ W.cell? ⟨g, i * 3, none⟩ = some (.int .i64 xm) ∧ W.cell? ⟨g, i * 3 + 1, none⟩ = some (.int .i64 xs) ∧ W.cell? ⟨g, i * 3 + 2, none⟩ = some (.bool xr))) := HBX.out
           have KA0 : Hid (Nw w1 (wr.alloc (.cells #[.int .i64 y.1.pos, .int .i64 y.1.kind, .int .i64 y.1.name, .slice tp y.1.tests.length tc] 100))) := HK.out.alloc _
           generalize (wr.alloc (.cells #[.int .i64 y.1.pos, .int .i64 y.1.kind, .int .i64 y.1.name, .slice tp y.1.tests.length tc] 100)) = wa at *)
        | (have hk4' : (y.1.kind != 4) = true := by simp [hk4]
           have HK4' : Hid (¬ y.1.kind = 4) := hk4
           clear hk4
           go_wp2_with fail
           refine (HHY.out _).mono ?_
           rintro e5 wa ⟨rfl, k5⟩
           have HSA : Hid (∀ W, Nw wa W → (W.cell? ⟨w.heap.size, 0, none⟩ = some (.int .i64 l.length) ∧ W.cell? ⟨w.heap.size, 1, none⟩ = some (.int .i64 (scF l 0)) ∧ W.cell? ⟨w.heap.size, 2, none⟩ = some (.int .i64 (scF l 1)) ∧ W.cell? ⟨w.heap.size, 3, none⟩ = some (.int .i64 (scF l 2)) ∧ W.cell? ⟨w.heap.size, 4, none⟩ = some (.int .i64 (scF l 3)) ∧ W.cell? ⟨w.heap.size + 1, 1, none⟩ = some (.slice (some ⟨gs, 0, none⟩) L.length cs) ∧ W.cell? ⟨wr.heap.size, 0, none⟩ = some (.int .i64 y.1.pos) ∧ W.cell? ⟨wr.heap.size, 1, none⟩ = some (.int .i64 y.1.kind) ∧ W.cell? ⟨wr.heap.size, 2, none⟩ = some (.int .i64 y.1.name) ∧ W.cell? ⟨wr.heap.size, 3, none⟩ = some (.slice tp y.1.tests.length tc) ∧ W.cell? ⟨g, i * 3, none⟩ = some (.int .i64 xm) ∧ W.cell? ⟨g, i * 3 + 1, none⟩ = some (.int .i64 xs) ∧ W.cell? ⟨g, i * 3 + 2, none⟩ = some (.bool xr))) := fun W kW => HBX.out W (k5.trans kW)
           have KA0 : Hid (Nw w1 wa) := (HK.out.alloc _).trans k5
           clear k5
           rcases hkb with _ | _
           · have HNO : Hid (¬ pG) := by
               intro h
               rcases (HPR.out.1 h).1 with h | h
               · exact HK4'.out h
               · cases h
             go_wp2
             go_ret
             exact HNX.out _ _ HNO.out (K1.out.trans KA0.out) rfl
           have HK4 : Hid (y.1.kind = 4 ∨ true = true) := Or.inr rfl
           go_wp2)
      all_goals
        have KAW : Hid (Nw w wa) := K1.out.trans KA0.out
        obtain ⟨a0, a1, a2, a3, a4, a5, a6, a7, a8, a9, a10, a11, a12⟩ := HSA.out wa (Kp.refl _ _)
        clear c0 c1 c2 c3 c4 q1 s0 s1 s2 s3 e0 e1 e2 HBX HHY
        by_cases hn1 : y.1.name = -1
        all_goals
          first
          | (have hn1' : (y.1.name != -1) = false := by simp [hn1]
             have HN1 : Hid (y.1.name = -1 ∨ pN) := Or.inl hn1
             clear hn1
             go_quiet (fail)
             go_wp2
             have HSC : Hid (∀ W, Nw (wa.drewN nq) W → (W.cell? ⟨w.heap.size, 0, none⟩ = some (.int .i64 l.length) ∧ W.cell? ⟨w.heap.size, 1, none⟩ = some (.int .i64 (scF l 0)) ∧ W.cell? ⟨w.heap.size, 2, none⟩ = some (.int .i64 (scF l 1)) ∧ W.cell? ⟨w.heap.size, 3, none⟩ = some (.int .i64 (scF l 2)) ∧ W.cell? ⟨w.heap.size, 4, none⟩ = some (.int .i64 (scF l 3)) ∧ W.cell? ⟨w.heap.size + 1, 1, none⟩ = some (.slice (some ⟨gs, 0, none⟩) L.length cs) ∧ W.cell? ⟨wr.heap.size, 0, none⟩ = some (.int .i64 y.1.pos) ∧ W.cell? ⟨wr.heap.size, 1, none⟩ = some (.int .i64 y.1.kind) ∧ W.cell? ⟨wr.heap.size, 2, none⟩ = some (.int .i64 y.1.name) ∧ W.cell? ⟨wr.heap.size, 3, none⟩ = some (.slice tp y.1.tests.length tc) ∧ W.cell? ⟨g, i * 3, none⟩ = some (.int .i64 xm) ∧ W.cell? ⟨g, i * 3 + 1, none⟩ = some (.int .i64 xs) ∧ W.cell? ⟨g, i * 3 + 2, none⟩ = some (.bool xr))) := fun W kW => HSA.out W (((Kp.refl _ wa).drewN nq).trans kW)
             have KC0 : Hid (Nw w1 (wa.drewN nq)) := KA0.out.drewN nq
             generalize wa.drewN nq = wz at *)
          | (have hn1' : (y.1.name != -1) = true := by simp [hn1]
             have HN1' : Hid (¬ y.1.name = -1) := hn1
             clear hn1
             go_region_held3 (fun w' => (w'.cell? ⟨w.heap.size, 0, none⟩ = some (.int .i64 l.length) ∧ w'.cell? ⟨w.heap.size, 1, none⟩ = some (.int .i64 (scF l 0)) ∧ w'.cell? ⟨w.heap.size, 2, none⟩ = some (.int .i64 (scF l 1)) ∧ w'.cell? ⟨w.heap.size, 3, none⟩ = some (.int .i64 (scF l 2)) ∧ w'.cell? ⟨w.heap.size, 4, none⟩ = some (.int .i64 (scF l 3)) ∧ w'.cell? ⟨w.heap.size + 1, 1, none⟩ = some (.slice (some ⟨gs, 0, none⟩) L.length cs) ∧ w'.cell? ⟨wr.heap.size, 0, none⟩ = some (.int .i64 y.1.pos) ∧ w'.cell? ⟨wr.heap.size, 1, none⟩ = some (.int .i64 y.1.kind) ∧ w'.cell? ⟨wr.heap.size, 2, none⟩ = some (.int .i64 y.1.name) ∧ w'.cell? ⟨wr.heap.size, 3, none⟩ = some (.slice tp y.1.tests.length tc) ∧ w'.cell? ⟨g, i * 3, none⟩ = some (.int .i64 xm) ∧ w'.cell? ⟨g, i * 3 + 1, none⟩ = some (.int .i64 xs) ∧ w'.cell? ⟨g, i * 3 + 2, none⟩ = some (.bool xr))) (first | exact HSA.out _ (Kp.refl _ _) | exact HSA.out _ ((Kp.refl _ _).drewN _) | exact HSA.out _ (((Kp.refl _ _).drewN _).trans k6) | exact HSA.out _ k6)
               ((first | (go_at_call 66; refine (HNY.out _ (by first | exact KAW.out | exact KAW.out.drewN _)).mono ?_; rintro e6 wz ⟨b6, rfl, hb6, k6⟩)))
             have KZ : Hid (Nw wa wz) := by first | exact k6 | exact ((Kp.refl _ _).drewN _).trans k6
             have HB6 : Hid (b6 = true ↔ pN) := hb6
             have HSC : Hid (∀ W, Nw wz W → (W.cell? ⟨w.heap.size, 0, none⟩ = some (.int .i64 l.length) ∧ W.cell? ⟨w.heap.size, 1, none⟩ = some (.int .i64 (scF l 0)) ∧ W.cell? ⟨w.heap.size, 2, none⟩ = some (.int .i64 (scF l 1)) ∧ W.cell? ⟨w.heap.size, 3, none⟩ = some (.int .i64 (scF l 2)) ∧ W.cell? ⟨w.heap.size, 4, none⟩ = some (.int .i64 (scF l 3)) ∧ W.cell? ⟨w.heap.size + 1, 1, none⟩ = some (.slice (some ⟨gs, 0, none⟩) L.length cs) ∧ W.cell? ⟨wr.heap.size, 0, none⟩ = some (.int .i64 y.1.pos) ∧ W.cell? ⟨wr.heap.size, 1, none⟩ = some (.int .i64 y.1.kind) ∧ W.cell? ⟨wr.heap.size, 2, none⟩ = some (.int .i64 y.1.name) ∧ W.cell? ⟨wr.heap.size, 3, none⟩ = some (.slice tp y.1.tests.length tc) ∧ W.cell? ⟨g, i * 3, none⟩ = some (.int .i64 xm) ∧ W.cell? ⟨g, i * 3 + 1, none⟩ = some (.int .i64 xs) ∧ W.cell? ⟨g, i * 3 + 2, none⟩ = some (.bool xr))) := fun W kW => HSA.out W (KZ.out.trans kW)
             have KC0 : Hid (Nw w1 wz) := KA0.out.trans KZ.out
             clear k6 hb6
             rcases b6 with _ | _
             · have HNO : Hid (¬ pG) := by
                 intro h
                 rcases (HPR.out.1 h).2.1 with h | h
                 · exact HN1'.out h
                 · have := HB6.out.2 h
                   simp at this
               go_wp2
               go_ret
               exact HNX.out _ _ HNO.out (K1.out.trans KC0.out) rfl
             have HN1 : Hid (y.1.name = -1 ∨ pN) := Or.inr (HB6.out.1 (by first | rfl | trivial))
             go_wp2)
        all_goals
          have KCW : Hid (Nw w wz) := K1.out.trans KC0.out
          clear a0 a1 a2 a3 a4 a5 a6 a7 a8 a9 a10 a11 a12
          obtain ⟨a0, a1, a2, a3, a4, a5, a6, a7, a8, a9, a10, a11, a12⟩ := HSC.out wz (Kp.refl _ _)
          go_region_held3 (fun w' => (w'.cell? ⟨w.heap.size, 0, none⟩ = some (.int .i64 l.length) ∧ w'.cell? ⟨w.heap.size, 1, none⟩ = some (.int .i64 (scF l 0)) ∧ w'.cell? ⟨w.heap.size, 2, none⟩ = some (.int .i64 (scF l 1)) ∧ w'.cell? ⟨w.heap.size, 3, none⟩ = some (.int .i64 (scF l 2)) ∧ w'.cell? ⟨w.heap.size, 4, none⟩ = some (.int .i64 (scF l 3)) ∧ w'.cell? ⟨w.heap.size + 1, 1, none⟩ = some (.slice (some ⟨gs, 0, none⟩) L.length cs) ∧ w'.cell? ⟨wr.heap.size, 0, none⟩ = some (.int .i64 y.1.pos) ∧ w'.cell? ⟨wr.heap.size, 1, none⟩ = some (.int .i64 y.1.kind) ∧ w'.cell? ⟨wr.heap.size, 2, none⟩ = some (.int .i64 y.1.name) ∧ w'.cell? ⟨wr.heap.size, 3, none⟩ = some (.slice tp y.1.tests.length tc) ∧ w'.cell? ⟨g, i * 3, none⟩ = some (.int .i64 xm) ∧ w'.cell? ⟨g, i * 3 + 1, none⟩ = some (.int .i64 xs) ∧ w'.cell? ⟨g, i * 3 + 2, none⟩ = some (.bool xr))) (first | exact HSC.out _ (Kp.refl _ _) | exact HSC.out _ ((Kp.refl _ _).drewN _) | exact HSC.out _ (((Kp.refl _ _).drewN _).trans k7) | exact HSC.out _ k7)
            ((first | (go_at_call 67; refine (HTY.out _ (by first | exact KCW.out | exact KCW.out.drewN _)).mono ?_; rintro e7 w7 ⟨b7, rfl, hb7, k7⟩)))
          have K7 : Hid (Nw w1 w7) := by first | exact KC0.out.trans k7 | exact (KC0.out.drewN _).trans k7
          have HB7 : Hid (b7 = true ↔ pT) := hb7
          clear k7 hb7
          rcases b7 with _ | _
          · have HNO : Hid (¬ pG) := by
              intro h
              have := HB7.out.2 (HPR.out.1 h).2.2
              simp at this
            go_wp2
            go_ret
            exact HNX.out _ _ HNO.out (K1.out.trans K7.out) rfl
          · have HYES : Hid pG := HPR.out.2 ⟨HK4.out, HN1.out, HB7.out.1 (by first | rfl | trivial)⟩
            go_wp2
            go_roundg (L.length - (i + 1))
            case measure => rw [HM.out]; omega
            case rel => exact ⟨i + 1, by simp, rfl, by omega, HAX.out HYES.out, K7.out⟩
    · have hie : i = L.length := by omega
      subst hie
      go_wp2
      go_ret
      exact ⟨ss, L.length, rfl, Nat.le_refl _, HLF.out, HSL.out, HA.out, (fun x y hx hy => by rw [List.getElem?_eq_none (Nat.le_refl _)] at hy; cases hy), HKW.out⟩
def LargeN (t:Nt) (L:List (St×Value)):Prop:=4<(slotsTo L L.length).length∨(∃x∈L,4<x.1.tests.length)∨24<t.long
theorem isLarge_any (t:Nt) (nv sv:Value) (wb:Bool) (wi:Int) (L:List (St×Value)) (w:World) (h:PatM w nv sv (t.nd 0 0) L) (hL:L.map Prod.fst=t.steps) (hsz:t.size≤10000) (hops:t.Ops) (hreps:t.Reps) (hN:∀x∈L,x.1.name = -1∨0≤x.1.name) :
  Calls Tryz.prog 43 #[.agg #[nv,sv,.bool wb,.int .i64 wi]] w (SayP w (LargeN t L)):=by
 have hpos:=t.size_pos
 have hspos:=t.steps_pos
 have hsle:=t.steps_le
 obtain ⟨gn,cn,hnv⟩:=owns_someX h.nodes (by rw [Nt.nd_length];exact hpos)
 obtain ⟨gs,cs,hsv⟩:=owns_someX h.steps (by have:=congrArg List.length hL;simp at *;omega)
 subst hnv hsv
 have hbn:=h.nodes.lt gn rfl
 have hbs:=h.steps.lt gs rfl
 have hnl:=t.nd_length 0 0
 have hLl:L.length=t.steps.length:=by rw [←hL];simp
 have hL10:L.length≤10000:=by omega
 have HP:Hid (∀W,Nw w W→PatM W (.slice (some ⟨gn,0,none⟩) (t.nd 0 0).length cn) (.slice (some ⟨gs,0,none⟩) L.length cs) (t.nd 0 0) L):=fun W kW=>h.nw kW
 have HCN:Hid (∀W,Nw w W→Calls Tryz.prog 68 #[.slice (some ⟨gs,0,none⟩) L.length cs] W fun e w'=>e=.returned (.int .i64 ((slotsTo L L.length).length:Nat))∧Nw W w'):=fun W kW=>countNames_any gs cs L hN W (h.nw kW).sts hL10
 have HCP:Hid (∀W,Nw w W→Calls Tryz.prog 69 #[.slice (some ⟨gn,0,none⟩) t.size cn] W fun e w'=>e=.returned (.int .i64 (capP t.long))∧Nw W w'):=by
  intro W kW
  have:=countPlaces_any t _ W (h.nw kW).nodes hsz hops hreps
  rw [hnl] at this
  exact this
 have hsl:=slotsTo_len L L.length
 have HLA:Hid (LargeN t L↔(4<(slotsTo L L.length).length∨(∃x∈L,4<x.1.tests.length)∨24<t.long)):=Iff.rfl
 have hcp:capP t.long=25∧24<t.long∨capP t.long≤24∧¬24<t.long:=by unfold capP;split <;> omega
 generalize LargeN t L=pp at *
 clear h hL hN hLl
 rw [hnl]
 clear hnl
 generalize (slotsTo L L.length).length=sl at *
 generalize capP t.long=cp at *
 go_enter Tryz.func43,Tryz.ntmps43
 go_wp2_with fail
 refine (HCN.out _ ((Kp.refl _ w).alloc _)).mono ?_
 rintro e w1 ⟨rfl,k1⟩
 have hA:=(pat_at w 70 (.slice (some ⟨gn,0,none⟩) t.size cn) (.slice (some ⟨gs,0,none⟩) L.length cs) (.bool wb) (.int .i64 wi) (B:=w.heap.size) rfl)
 have PA1:Hid (PAt w1 w.heap.size (.slice (some ⟨gn,0,none⟩) t.size cn) (.slice (some ⟨gs,0,none⟩) L.length cs) (.bool wb) (.int .i64 wi)):=hA.sm (k1.sm hA.lt (fun h=>h))
 have K1:Hid (Nw w w1):=((Kp.refl _ w).alloc _).trans k1
 clear k1 hA HCN
 by_cases h4:4<sl
 ·have HY:Hid pp:=HLA.out.2 (Or.inl h4)
  go_wp2
  go_ret
  exact ⟨true,rfl,⟨fun _=>HY.out,fun _=>rfl⟩,K1.out⟩
 ·go_wp2
  go_loopg [3] L.length (fun m v3 wr=>∃i:Nat,v3=.int .i64 i∧m=L.length - i∧i≤L.length∧(∀j x,j<i→L[j]? = some x→¬4<x.1.tests.length)∧PAt wr w.heap.size (.slice (some ⟨gn,0,none⟩) t.size cn) (.slice (some ⟨gs,0,none⟩) L.length cs) (.bool wb) (.int .i64 wi)∧Nw w wr)
  case atStart=>exact ⟨0,rfl,rfl,by omega,(fun j x hj=>by omega),PA1.out,K1.out⟩
  case round =>
   obtain ⟨i,rfl,hm,hi,hall,hpa,hk⟩:=hrel
   have HM:Hid (_=L.length - i):=hm
   have HA:Hid (∀j x,j<i→L[j]? = some x→¬4<x.1.tests.length):=hall
   have HPA:Hid (PAt wr w.heap.size (.slice (some ⟨gn,0,none⟩) t.size cn) (.slice (some ⟨gs,0,none⟩) L.length cs) (.bool wb) (.int .i64 wi)):=hpa
   have HK:Hid (Nw w wr):=hk
   obtain ⟨p0,p1,p2,p3,pz⟩:=hpa
   clear hm hall
   by_cases hil:i<L.length
   ·obtain ⟨x,hx⟩:∃x,L[i]? = some x:=⟨_,List.getElem?_eq_getElem hil⟩
    have HPW:=HP.out wr hk
    obtain ⟨s0,s1,s2,s3⟩:=HPW.step hx
    obtain ⟨tp,tc,htv⟩:=ownsLenX (HPW.tests x (List.mem_of_getElem? hx))
    rw [htv] at s3
    have HX:Hid (L[i]? = some x):=hx
    clear HPW hk hx htv
    by_cases h5:4<x.1.tests.length
    ·have HY:Hid pp:=HLA.out.2 (Or.inr (Or.inl ⟨x,List.mem_of_getElem? HX.out,h5⟩))
     generalize x.1.tests.length=xt at *
     go_wp2
     go_ret
     exact ⟨true,rfl,⟨fun _=>HY.out,fun _=>rfl⟩,HK.out⟩
    ·have HA2:Hid (∀j y,j<i+1→L[j]? = some y→¬4<y.1.tests.length):=by
      intro j y hj hy
      by_cases e:j=i
      ·subst e
       have:=HX.out
       rw [hy] at this
       simp only [Option.some.injEq] at this
       subst this;exact h5
      ·exact HA.out j y (by omega) hy
     generalize x.1.tests.length=xt at *
     go_wp2
     go_roundg (L.length - (i+1))
     case measure=>rw [HM.out];omega
     case rel=>exact ⟨i+1,by simp,rfl,by omega,HA2.out,HPA.out,HK.out⟩
   ·have hie:i=L.length:=by omega
    subst hie
    have HNO:Hid (¬∃x∈L,4<x.1.tests.length):=by
     rintro ⟨x,hx,h5⟩
     obtain ⟨j,hj⟩:=List.mem_iff_getElem?.1 hx
     exact HA.out j x (List.getElem?_eq_some_iff.1 hj).1 hj h5
    clear hk
    go_wp2_with fail
    refine (HCP.out _ HK.out).mono ?_
    rintro e w2 ⟨rfl,k2⟩
    have K2:Hid (Nw w w2):=HK.out.trans k2
    clear k2
    rcases hcp with ⟨h6,h7⟩ | ⟨h6,h7⟩
    ·have HY:Hid pp:=HLA.out.2 (Or.inr (Or.inr h7))
     clear h7
     go_wp2
     go_ret
     exact ⟨true,ret_b (by first|(simp [h6];done)|(simp;omega)),⟨fun _=>HY.out,fun _=>rfl⟩,K2.out⟩
    ·have HY:Hid (¬pp):=by
      intro h
      have h7':=h7
      rcases HLA.out.1 h with h|h|h
      ·exact h4 h
      ·exact HNO.out h
      ·omega
     clear h7
     go_wp2
     go_ret
     exact ⟨false,ret_b (by simp;omega),⟨(fun h=>by cases h),fun h=>absurd h HY.out⟩,K2.out⟩
end Go.Proofs.YtcboiapggnmpfaaGreatDoor
