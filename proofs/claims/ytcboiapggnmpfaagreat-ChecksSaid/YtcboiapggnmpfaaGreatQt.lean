/- Walks: spotterref: is a step's name as it may be; is a step right: just so. -/
import Derived.Test.YtcboiapggnmpfaaGreatQs
import Derived.Test.YtcboiapggnmpfaaGreatQj
import Derived.Deep.DeepCutAuto
namespace Go.Proofs.YtcboiapggnmpfaaGreat
open Go.RowKit
set_option linter.unusedSimpArgs false
set_option linter.unusedVariables false

/-- On some way to step k a step ahead of it has the name. -/
def MaybeP (ss : List (St × Value)) (es : List Ed) (k : Nat) (name : Int) : Prop := ∃ (i : Nat) (x : St × Value), ss[i]? = some x ∧ x.1.name = name ∧ Rc (okE ss true (-1)) es (edOf (i : Int) es).to.toNat (edOf (k : Int) es).fr.toNat
/-- The name of step k, x, is as it may be. -/
def NameP (ps : List Pt) (root : Nat) (ss : List (St × Value)) (es : List Ed) (k : Nat) (x : St) : Prop :=
  wi ps (root + 1) root k false = false ∧ ¬ MaybeP ss es k x.name ∧ ∀ i y, i < k → ss[i]? = some y → y.1.name = x.name → y.1.kind = x.kind
set_option maxRecDepth 100000 in
set_option maxHeartbeats 2000000 in
theorem namedS_any {w : World} {G n : Nat} {ev sv : Value} {gi go : Nat} {es : List Ed} {Q : TP} {ps : List Pt} {ss : List (St × Value)} {root : Nat} {win : Int} (h : GQ w G n ev sv gi go es Q ps ss root win) (hst : StOk es ss.length) (hwf : WfP ps ss.length) (hr : root < ps.length) (k : Nat) (x : St × Value) (hx : ss[k]? = some x) :
    Calls Tryz.prog 152 #[.pointer (some ⟨G, 0, none⟩), .pointer (some ⟨Q.T, 0, none⟩), .int .i64 k] w (SaysPost w (NameP ps root ss es k x.1)) := by
  have H : Hid (GQ w G n ev sv gi go es Q ps ss root win) := h
  have HA : Hid (∀ ob, GQ (w.alloc ob) G n ev sv gi go es Q ps ss root win) := fun ob => h.nw ((Kp.refl _ _).alloc ob)
  have HST : Hid (StOk es ss.length) := hst
  have hns := h.tf.r.ns
  have c1 := h.tf.r.c1
  have c2 := h.tf.r.c2
  have hT := h.tf.r.ltT
  have ht := h.tf.r.ltt
  have hk := (List.getElem?_eq_some_iff.1 hx).1
  obtain ⟨d0, d1, d2, d3⟩ := h.tf.r.step k x hx
  have hxo := h.tf.tests x (List.mem_of_getElem? hx)
  obtain ⟨⟨xk, xn, xp, xt⟩, xv⟩ := x
  obtain ⟨tp, tc, hxv⟩ := owns_lenL hxo
  simp only at d0 d1 d2 d3 hxv ⊢
  subst hxv
  clear hxo
  have hnp := h.tf.r.np
  have HWI : Hid (∀ ob, Calls Tryz.prog 200 #[.pointer (some ⟨Q.T, 0, none⟩), .int .i64 root, .int .i64 k, .bool false] (w.alloc ob) (BoolIs (w.alloc ob) (wi ps (root + 1) root k false))) := fun ob => withinS_any Q ps ss root win ss.length hwf k (root + 1) root (by omega) hr false _ (HA.out ob).tf.r
  have HMB : Hid (∀ W, Nw w W → Calls Tryz.prog 201 #[.pointer (some ⟨G, 0, none⟩), .pointer (some ⟨Q.T, 0, none⟩), .int .i64 xn, .int .i64 k] W (SaysPost W (MaybeP ss es k xn))) := fun W kW => maybeS_any (H.out.nw kW) HST.out xn k
  have HNP : Hid (NameP ps root ss es k ⟨xk, xn, xp, xt⟩ ↔ wi ps (root + 1) root k false = false ∧ ¬ MaybeP ss es k xn ∧ ∀ i y, i < k → ss[i]? = some y → y.1.name = xn → y.1.kind = xk) := Iff.rfl
  generalize NameP ps root ss es k ⟨xk, xn, xp, xt⟩ = pp at *
  generalize wi ps (root + 1) root k false = wb at *
  generalize MaybeP ss es k xn = pm at *
  clear h hst hx hwf
  obtain ⟨T, gp, cp, gt, ct⟩ := Q
  simp only at c1 c2 d0 d1 d2 d3 hT ht
  have hn1 : ¬ T = w.heap.size := by omega
  have hn2 : ¬ gt = w.heap.size := by omega
  go_enter Tryz.func152, Tryz.ntmps152
  go_wp2_with fail
  refine (HWI.out _).mono ?_
  rintro e w1 ⟨rfl, k1⟩
  obtain ⟨kk, hl1, ⟨kc, kz⟩⟩ := k1.box (fun h => h)
  have K1 : Hid (Nw w w1) := kk
  have m0 : w1.cell? ⟨w.heap.size, 0, none⟩ = some (.int .i64 xk) := by rw [kc]; simp [go_sem]
  have m1 : w1.cell? ⟨w.heap.size, 1, none⟩ = some (.int .i64 xn) := by rw [kc]; simp [go_sem]
  clear kk k1 kz kc c1 c2 d0 d1 d2 d3
  go_wp2_with fail
  refine (HMB.out w1 K1.out).mono ?_
  rintro e w2 ⟨b2, rfl, hb2, k2⟩
  have HB2 : Hid (b2 = true ↔ pm) := hb2
  have K2 : Hid (Nw w w2) := K1.out.trans k2
  have n0 := (k2.cell (p := ⟨w.heap.size, 0, none⟩) hl1 (fun h => h)).trans m0
  have n1 := (k2.cell (p := ⟨w.heap.size, 1, none⟩) hl1 (fun h => h)).trans m1
  have hl2 : w.heap.size < w2.heap.size := Nat.lt_of_lt_of_le hl1 k2.size
  have e1 := (H.out.nw K2.out).tf.r.c1
  simp only at e1
  have HSP : Hid (∀ (i : Nat) (x : St × Value), ss[i]? = some x → w2.cell? ⟨gt, i * 4, none⟩ = some (.int .i64 x.1.kind) ∧ w2.cell? ⟨gt, i * 4 + 1, none⟩ = some (.int .i64 x.1.name)) := fun i x hx => ⟨((H.out.nw K2.out).tf.r.step i x hx).1, ((H.out.nw K2.out).tf.r.step i x hx).2.1⟩
  clear k2 m0 m1 hb2 HMB HWI
  cases wb with
  | true =>
    have HF : Hid (¬ pp) := by intro h; have := (HNP.out.1 h).1; simp at this
    go_wp2
    go_ret
    exact ⟨false, rfl, ⟨(by intro h; cases h), fun h => absurd h HF.out⟩, K2.out⟩
  | false =>
    cases b2 with
    | true =>
      have HF : Hid (¬ pp) := by intro h; exact (HNP.out.1 h).2.1 (HB2.out.1 (by first | rfl | trivial))
      go_wp2
      go_ret
      exact ⟨false, rfl, ⟨(by intro h; cases h), fun h => absurd h HF.out⟩, K2.out⟩
    | false =>
      have HPM : Hid (¬ pm) := by intro h; have := HB2.out.2 h; simp at this
      go_wp2
      go_loopg [10] k (fun m v10 wr => ∃ i j : Nat, v10 = .int .i64 i ∧ m = k - i ∧ i ≤ k ∧ wr = w2.drewN j ∧ ∀ q y, q < i → ss[q]? = some y → y.1.name = xn → y.1.kind = xk)
      case atStart => exact ⟨0, 0, rfl, rfl, by omega, rfl, by intro q y hq; omega⟩
      case round =>
        obtain ⟨i, jd, rfl, hm, hi, rfl, hall⟩ := hrel
        have HAL : Hid (∀ q y, q < i → ss[q]? = some y → y.1.name = xn → y.1.kind = xk) := hall
        clear hall
        by_cases hi' : i < k
        · obtain ⟨y, hy⟩ : ∃ y, ss[i]? = some y := ⟨ss[i]'(by omega), List.getElem?_eq_getElem (by omega)⟩
          obtain ⟨f0, f1⟩ := HSP.out i y hy
          have HY : Hid (ss[i]? = some y) := hy
          obtain ⟨yk, hyk⟩ : ∃ yk, y.1.kind = yk := ⟨_, rfl⟩
          obtain ⟨yn, hyn⟩ : ∃ yn, y.1.name = yn := ⟨_, rfl⟩
          rw [hyk] at f0
          rw [hyn] at f1
          have HYK : Hid (y.1.kind = yk) := hyk
          have HYN : Hid (y.1.name = yn) := hyn
          have hii : (i : Int) < ss.length := by omega
          have hik : i < k := hi'
          clear hy hyk hyn
          have hnext : (yn = xn → yk = xk) → ∀ q y, q < i + 1 → ss[q]? = some y → y.1.name = xn → y.1.kind = xk := by
            intro h q z hq hz hzn
            by_cases e : q = i
            · subst e
              have := HY.out
              rw [hz] at this
              cases this
              rw [HYK.out]; exact h (by rw [← HYN.out, hzn])
            · exact HAL.out q z (by omega) hz hzn
          have HNX : Hid ((yn = xn → yk = xk) → ∀ q y, q < i + 1 → ss[q]? = some y → y.1.name = xn → y.1.kind = xk) := hnext
          clear hnext
          by_cases hnm : yn = xn
          · have hnm' : (yn == xn) = true := by simp [hnm]
            have HNM : Hid (yn = xn) := hnm
            clear hnm
            by_cases hkd : yk = xk
            · have hkd' : (yk != xk) = false := by simp [hkd]
              have HKD : Hid (yk = xk) := hkd
              clear hkd
              go_wp2
              go_quiet (fail)
              go_wp2
              go_roundg (k - (i + 1))
              case measure => omega
              case rel => exact ⟨i + 1, _, by simp, rfl, by omega, rfl, HNX.out (fun _ => HKD.out)⟩
            · have hkd' : (yk != xk) = true := by simp [hkd]
              have HF : Hid (¬ pp) := by
                intro h
                exact hkd (by rw [← HYK.out]; exact (HNP.out.1 h).2.2 i y hik HY.out (by rw [HYN.out, HNM.out]))
              clear hkd
              go_wp2
              go_quiet (fail)
              go_wp2
              go_ret
              exact ⟨false, rfl, ⟨(by intro h; cases h), fun h => absurd h HF.out⟩, (K2.out.drewN _).drewN _⟩
          · have hnm' : (yn == xn) = false := by simp [hnm]
            have HNM : Hid (¬ yn = xn) := hnm
            clear hnm
            go_wp2
            go_quiet (fail)
            go_wp2
            go_roundg (k - (i + 1))
            case measure => omega
            case rel => exact ⟨i + 1, _, by simp, rfl, by omega, rfl, HNX.out (fun h => absurd h HNM.out)⟩
        · have HT : Hid pp := HNP.out.2 ⟨(by first | rfl | trivial), HPM.out, fun q y hq => HAL.out q y (by omega)⟩
          go_wp2
          go_ret
          exact ⟨true, rfl, ⟨fun _ => HT.out, fun _ => rfl⟩, K2.out.drewN _⟩
end Go.Proofs.YtcboiapggnmpfaaGreat

namespace Go.Proofs.YtcboiapggnmpfaaGreat
open Go.RowKit
set_option linter.unusedSimpArgs false
set_option linter.unusedVariables false

def OfOk (t : Tst) : Prop := (0 ≤ t.left.of ∧ t.left.of ≤ 1000) ∧ (0 ≤ t.right.of ∧ t.right.of ≤ 1000) ∧ (0 ≤ t.more.of ∧ t.more.of ≤ 1000)
/-- Step k, x, is right. -/
def RightP (hs : Int → Int) (ps : List Pt) (root : Nat) (ss : List (St × Value)) (es : List Ed) (gi k : Nat) (x : St) : Prop :=
  0 ≤ hs x.kind ∧ (0 ≤ x.name → NameP ps root ss es k x) ∧ ∀ t ∈ x.tests, ReadP hs ss es gi k x.kind t.left.of t.left.field ∧ ReadP hs ss es gi k x.kind t.right.of t.right.field ∧ ReadP hs ss es gi k x.kind t.more.of t.more.field
set_option maxRecDepth 100000 in
set_option maxHeartbeats 2000000 in
theorem rightS_any {w : World} {G n : Nat} {ev sv : Value} {gi go : Nat} {es : List Ed} {Q : TP} {ps : List Pt} {ss : List (St × Value)} {root : Nat} {win : Int} (h : GQ w G n ev sv gi go es Q ps ss root win) (hst : StOk es ss.length) (hwf : WfP ps ss.length) (hr : root < ps.length) (sb : ByteArray) (hs : sb.size ≤ maxLen) (k : Nat) (x : St × Value) (hx : ss[k]? = some x) (hof : ∀ t ∈ x.1.tests, OfOk t) :
    Calls Tryz.prog 99 #[.pointer (some ⟨G, 0, none⟩), .pointer (some ⟨Q.T, 0, none⟩), .string sb, .int .i64 k] w (SaysPost w (RightP (hasF (bI sb)) ps root ss es gi k x.1)) := by
  have H : Hid (GQ w G n ev sv gi go es Q ps ss root win) := h
  have HST : Hid (StOk es ss.length) := hst
  have HWF : Hid (WfP ps ss.length) := hwf
  have HS : Hid (sb.size ≤ maxLen) := hs
  have hns := h.tf.r.ns
  have c1 := h.tf.r.c1
  have hT := h.tf.r.ltT
  have ht := h.tf.r.ltt
  have hk := (List.getElem?_eq_some_iff.1 hx).1
  have HNA : Hid (∀ W, Nw w W → Calls Tryz.prog 152 #[.pointer (some ⟨G, 0, none⟩), .pointer (some ⟨Q.T, 0, none⟩), .int .i64 k] W (SaysPost W (NameP ps root ss es k x.1))) := fun W kW => namedS_any (h.nw kW) hst hwf hr k x hx
  have HRDX : Hid (∀ W, Nw w W → ∀ of field num : Int, 0 ≤ of ∧ of ≤ 1000 → Calls Tryz.prog 153 #[.pointer (some ⟨G, 0, none⟩), .pointer (some ⟨Q.T, 0, none⟩), .string sb, .int .i64 k, .agg #[.int .i64 of, .int .i64 field, .int .i64 num]] W (SaysPost W (ReadP (hasF (bI sb)) ss es gi k x.1.kind of field))) := fun W kW of field num ho => readableS_any (h.nw kW) hst sb hs k x hx of field num ho
  obtain ⟨d0, d1, d2, d3⟩ := h.tf.r.step k x hx
  have hxo := h.tf.tests x (List.mem_of_getElem? hx)
  have hxl := h.tf.tl x (List.mem_of_getElem? hx)
  obtain ⟨⟨xk, xn, xp, xt⟩, xv⟩ := x
  obtain ⟨tp, tc, hxv⟩ := owns_lenL hxo
  simp only at d0 d1 d2 d3 hxv hxo hxl hof HNA HRDX ⊢
  subst hxv
  have HXO : Hid (w.ownsRow 0 38 11 (.slice tp xt.length tc) xt.length (tssC xt)) := hxo
  have HOF : Hid (∀ t ∈ xt, OfOk t) := hof
  have HRP : Hid (RightP (hasF (bI sb)) ps root ss es gi k ⟨xk, xn, xp, xt⟩ ↔ 0 ≤ hasF (bI sb) xk ∧ (0 ≤ xn → NameP ps root ss es k ⟨xk, xn, xp, xt⟩) ∧ ∀ t ∈ xt, ReadP (hasF (bI sb)) ss es gi k xk t.left.of t.left.field ∧ ReadP (hasF (bI sb)) ss es gi k xk t.right.of t.right.field ∧ ReadP (hasF (bI sb)) ss es gi k xk t.more.of t.more.field) := Iff.rfl
  generalize RightP (hasF (bI sb)) ps root ss es gi k ⟨xk, xn, xp, xt⟩ = pp at *
  generalize NameP ps root ss es k ⟨xk, xn, xp, xt⟩ = pn at *
  clear h hst hx hwf hs hxo hof
  obtain ⟨T, gp, cp, gt, ct⟩ := Q
  simp only at c1 d0 d1 d2 d3 hT ht
  have hn1 : ¬ T = w.heap.size := by omega
  have hn2 : ¬ gt = w.heap.size := by omega
  obtain ⟨rp, hrp⟩ : ∃ rp : Int → Int → Prop, rp = fun of field => ReadP (hasF (bI sb)) ss es gi k xk of field := ⟨_, rfl⟩
  have HRD : Hid (∀ W, Nw w W → ∀ of field num : Int, 0 ≤ of ∧ of ≤ 1000 → Calls Tryz.prog 153 #[.pointer (some ⟨G, 0, none⟩), .pointer (some ⟨T, 0, none⟩), .string sb, .int .i64 k, .agg #[.int .i64 of, .int .i64 field, .int .i64 num]] W (SaysPost W (rp of field))) := by rw [hrp]; exact HRDX.out
  have HRQ : Hid (pp ↔ 0 ≤ hasF (bI sb) xk ∧ (0 ≤ xn → pn) ∧ ∀ t ∈ xt, rp t.left.of t.left.field ∧ rp t.right.of t.right.field ∧ rp t.more.of t.more.field) := by rw [hrp]; exact HRP.out
  clear HRDX HRP hrp
  go_enter Tryz.func99, Tryz.ntmps99
  go_wp2_with fail
  refine (Has_any sb xk _ HS.out).mono ?_
  rintro e w1 ⟨rfl, hw1⟩
  have hw2 := hw1.symm
  subst hw2
  clear hw1
  generalize hasF (bI sb) xk = hf at *
  by_cases hf0 : hf < 0
  · have HF : Hid (¬ pp) := by intro h; have := (HRQ.out.1 h).1; omega
    go_wp2
    go_ret
    exact ⟨false, rfl, ⟨(by intro h; cases h), fun h => absurd h HF.out⟩, (Kp.refl _ w).alloc _⟩
  · have hf1 : decide (hf < 0) = false := by simp; omega
    go_upto_if 31 with fail
    go_cut [9] (fun p wr => p = .pointer (some ⟨w.heap.size, 0, none⟩) ∧ wr.cell? ⟨w.heap.size, 3, none⟩ = some (.slice tp xt.length tc) ∧ w.heap.size < wr.heap.size ∧ Nw w wr ∧ (0 ≤ xn → pn))
    case first =>
      by_cases hx0 : 0 ≤ xn
      · go_wp2_with fail
        refine (HNA.out _ ((Kp.refl _ w).alloc _)).mono ?_
        rintro e w1 ⟨b1, rfl, hb1, k1⟩
        have HB1 : Hid (b1 = true ↔ pn) := hb1
        obtain ⟨kk, hl1, ⟨kc, kz⟩⟩ := k1.box (fun h => h)
        have K1 : Hid (Nw w w1) := kk
        have m3 : w1.cell? ⟨w.heap.size, 3, none⟩ = some (.slice tp xt.length tc) := by rw [kc]; simp [go_sem]
        clear kk k1 kz kc hb1
        cases b1 with
        | false =>
          have HF : Hid (¬ pp) := by intro h; have := HB1.out.2 ((HRQ.out.1 h).2.1 hx0); simp at this
          go_wp2
          go_ret
          exact ⟨false, rfl, ⟨(by intro h; cases h), fun h => absurd h HF.out⟩, K1.out⟩
        | true =>
          have HPN : Hid pn := HB1.out.1 (by first | rfl | trivial)
          go_wp2
          go_meet
          case rel => exact ⟨rfl, m3, hl1, K1.out, fun _ => HPN.out⟩
      · have hx1 : decide (0 ≤ xn) = false := by simp; omega
        go_wp2
        go_meet
        case rel => exact ⟨rfl, by simp [go_sem], by simp, (Kp.refl _ w).alloc _, fun h => absurd h (by omega)⟩
    case rest =>
      obtain ⟨rfl, hc3, hwl, hk3, hpn⟩ := hcut
      have HPN : Hid (0 ≤ xn → pn) := hpn
      have K3 : Hid (Nw w wc) := hk3
      clear hk3 c1 d0 d1 d2 d3 hpn
      go_wp2
      go_loopg [12] xt.length (fun m v12 wr => ∃ i : Nat, v12 = .int .i64 i ∧ m = xt.length - i ∧ i ≤ xt.length ∧ wr.cell? ⟨w.heap.size, 3, none⟩ = some (.slice tp xt.length tc) ∧ w.heap.size < wr.heap.size ∧ Nw w wr ∧ ∀ t ∈ xt.take i, rp t.left.of t.left.field ∧ rp t.right.of t.right.field ∧ rp t.more.of t.more.field)
      case atStart => exact ⟨0, rfl, rfl, by omega, hc3, hwl, K3.out, by simp⟩
      case round =>
        obtain ⟨i, rfl, hm, hi, q3, ql, qk, qa⟩ := hrel
        have K4 : Hid (Nw w wr) := qk
        have QA : Hid (∀ t ∈ xt.take i, rp t.left.of t.left.field ∧ rp t.right.of t.right.field ∧ rp t.more.of t.more.field) := qa
        clear qk hc3 hwl K3 qa
        by_cases hi' : i < xt.length
        · obtain ⟨t, hti⟩ : ∃ t, xt[i]? = some t := ⟨xt[i], by simp [hi']⟩
          obtain ⟨g, c, hsl, _, hgl⟩ := HXO.out.form (by omega)
          simp only [Value.slice.injEq, true_and] at hsl
          obtain ⟨rfl, rfl⟩ := hsl
          have HTA : Hid (∀ W, Nw w W → TstAt W g (i * 11) t) := fun W kk => tstAt (owns_kp HXO.out kk (fun _ _ h => h)) hti
          have hofT := HOF.out t (List.mem_of_getElem? hti)
          have HTI : Hid (xt[i]? = some t) := hti
          obtain ⟨⟨l0, l1, l2⟩, rl, ⟨m0, m1, m2⟩, ar, ⟨n0, n1, n2⟩⟩ := t
          obtain ⟨o1, o2, o3⟩ := hofT
          simp only at o1 o2 o3
          have O1 : Hid (0 ≤ l0 ∧ l0 ≤ 1000) := o1
          have O2 : Hid (0 ≤ m0 ∧ m0 ≤ 1000) := o2
          have O3 : Hid (0 ≤ n0 ∧ n0 ≤ 1000) := o3
          clear o1 o2 o3
          obtain ⟨a0, a1, a2, a3, a4, a5, a6, a7, a8, a9, a10⟩ := HTA.out wr K4.out
          simp only at a0 a1 a2 a3 a4 a5 a6 a7 a8 a9 a10
          clear hti
          go_wp2_with fail
          refine (HRD.out wr K4.out l0 l1 l2 O1.out).mono ?_
          rintro e w5 ⟨b1, rfl, hb1, k5⟩
          have HB1 : Hid (b1 = true ↔ rp l0 l1) := hb1
          clear hb1
          have K5 : Hid (Nw w w5) := K4.out.trans k5
          have r3 := (k5.cell (p := ⟨w.heap.size, 3, none⟩) ql (fun h => h)).trans q3
          have rl5 : w.heap.size < w5.heap.size := Nat.lt_of_lt_of_le ql k5.size
          clear a0 a1 a2 a3 a4 a5 a6 a7 a8 a9 a10 k5 q3 ql
          obtain ⟨a0, a1, a2, a3, a4, a5, a6, a7, a8, a9, a10⟩ := HTA.out w5 K5.out
          simp only at a0 a1 a2 a3 a4 a5 a6 a7 a8 a9 a10
          go_wp2_with fail
          refine (HRD.out w5 K5.out m0 m1 m2 O2.out).mono ?_
          rintro e w6 ⟨b2, rfl, hb2, k6⟩
          have HB2 : Hid (b2 = true ↔ rp m0 m1) := hb2
          clear hb2
          have K6 : Hid (Nw w w6) := K5.out.trans k6
          have s3 := (k6.cell (p := ⟨w.heap.size, 3, none⟩) rl5 (fun h => h)).trans r3
          have rl6 : w.heap.size < w6.heap.size := Nat.lt_of_lt_of_le rl5 k6.size
          clear a0 a1 a2 a3 a4 a5 a6 a7 a8 a9 a10 k6 r3 rl5
          obtain ⟨a0, a1, a2, a3, a4, a5, a6, a7, a8, a9, a10⟩ := HTA.out w6 K6.out
          simp only at a0 a1 a2 a3 a4 a5 a6 a7 a8 a9 a10
          go_wp2_with fail
          refine (HRD.out w6 K6.out n0 n1 n2 O3.out).mono ?_
          rintro e w7 ⟨b3, rfl, hb3, k7⟩
          have HB3 : Hid (b3 = true ↔ rp n0 n1) := hb3
          clear hb3
          have K7 : Hid (Nw w w7) := K6.out.trans k7
          have u3 := (k7.cell (p := ⟨w.heap.size, 3, none⟩) rl6 (fun h => h)).trans s3
          have rl7 : w.heap.size < w7.heap.size := Nat.lt_of_lt_of_le rl6 k7.size
          clear a0 a1 a2 a3 a4 a5 a6 a7 a8 a9 a10 k7 s3 rl6
          cases b1 with
          | false =>
            have HF : Hid (¬ pp) := by intro h; have := HB1.out.2 ((HRQ.out.1 h).2.2 _ (List.mem_of_getElem? HTI.out)).1; simp at this
            go_wp2
            go_ret
            exact ⟨false, rfl, ⟨(by intro h; cases h), fun h => absurd h HF.out⟩, K7.out⟩
          | true =>
            cases b2 with
            | false =>
              have HF : Hid (¬ pp) := by intro h; have := HB2.out.2 ((HRQ.out.1 h).2.2 _ (List.mem_of_getElem? HTI.out)).2.1; simp at this
              go_wp2
              go_ret
              exact ⟨false, rfl, ⟨(by intro h; cases h), fun h => absurd h HF.out⟩, K7.out⟩
            | true =>
              cases b3 with
              | false =>
                have HF : Hid (¬ pp) := by intro h; have := HB3.out.2 ((HRQ.out.1 h).2.2 _ (List.mem_of_getElem? HTI.out)).2.2; simp at this
                go_wp2
                go_ret
                exact ⟨false, rfl, ⟨(by intro h; cases h), fun h => absurd h HF.out⟩, K7.out⟩
              | true =>
                have QA2 : Hid (∀ t ∈ xt.take (i + 1), rp t.left.of t.left.field ∧ rp t.right.of t.right.field ∧ rp t.more.of t.more.field) := by
                  intro t ht
                  rw [List.take_add_one, HTI.out] at ht
                  simp only [Option.toList_some, List.mem_append, List.mem_cons, List.not_mem_nil, or_false] at ht
                  rcases ht with ht | ht
                  · exact QA.out t ht
                  · subst ht; exact ⟨HB1.out.1 (by first | rfl | trivial), HB2.out.1 (by first | rfl | trivial), HB3.out.1 (by first | rfl | trivial)⟩
                go_wp2
                go_roundg (xt.length - (i + 1))
                case measure => omega
                case rel => exact ⟨i + 1, by simp, rfl, by omega, u3, rl7, K7.out, QA2.out⟩
        · have HT : Hid pp := HRQ.out.2 ⟨by omega, HPN.out, by have := QA.out; rw [List.take_of_length_le (by omega)] at this; exact this⟩
          go_wp2
          go_ret
          exact ⟨true, rfl, ⟨fun _ => HT.out, fun _ => rfl⟩, K4.out⟩
end Go.Proofs.YtcboiapggnmpfaaGreat
