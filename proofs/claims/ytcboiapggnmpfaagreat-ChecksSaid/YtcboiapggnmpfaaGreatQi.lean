/- Walks: spotterref: what is asked of a graph: held on every way, on some way. -/
import Derived.Test.YtcboiapggnmpfaaGreatGd
import Derived.Test.YtcboiapggnmpfaaGreatCc
import Derived.Test.YtcboiapggnmpfaaGreatQf
import Derived.Test.YtcboiapggnmpfaaGreatWf
namespace Go.Proofs.YtcboiapggnmpfaaGreat
open Go.RowKit
set_option linter.unusedSimpArgs false
set_option linter.unusedVariables false

/-- A tree that is read, its tests too. -/
structure TreeF (w : World) (Q : TP) (ps : List Pt) (ss : List (St × Value)) (root win : Int) : Prop where
  r : TreeR w Q ps ss root win
  tests : ∀ x ∈ ss, w.ownsRow 0 38 11 x.2 x.1.tests.length (tssC x.1.tests)
  tl : ∀ x ∈ ss, x.1.tests.length ≤ 1000
theorem TreeF.nw {w w' : World} {Q : TP} {ps : List Pt} {ss : List (St × Value)} {root win : Int} (h : TreeF w Q ps ss root win) (k : Nw w w') : TreeF w' Q ps ss root win :=
  ⟨h.r.nw k, fun x hx => owns_kp (h.tests x hx) k (fun _ _ h => h), h.tl⟩
/-- A graph and a tree that are asked. -/
structure GQ (w : World) (G n : Nat) (ev sv : Value) (gi go : Nat) (es : List Ed) (Q : TP) (ps : List Pt) (ss : List (St × Value)) (root win : Int) : Prop where
  gr : Gr w G n ev sv gi go
  ge : GE w G ev es
  tf : TreeF w Q ps ss root win
  hn : n ≤ 100000
  hgi : gi < n
  hgo : go < n
  ok : ∀ e ∈ es, 0 ≤ e.fr ∧ e.fr < n ∧ 0 ≤ e.to ∧ e.to < n
theorem GQ.nw {w w' : World} {G n : Nat} {ev sv : Value} {gi go : Nat} {es : List Ed} {Q : TP} {ps : List Pt} {ss : List (St × Value)} {root win : Int} (h : GQ w G n ev sv gi go es Q ps ss root win) (k : Nw w w') : GQ w' G n ev sv gi go es Q ps ss root win :=
  ⟨h.gr.sm (k.sm h.gr.lt (fun h => h)), h.ge.nw k, h.tf.nw k, h.hn, h.hgi, h.hgo, h.ok⟩
def StOk (es : List Ed) (ns : Nat) : Prop := ∀ e ∈ es, 0 ≤ e.st → e.st < ns
theorem edOf_ok {es : List Ed} {n : Nat} (h : ∀ e ∈ es, 0 ≤ e.fr ∧ e.fr < n ∧ 0 ≤ e.to ∧ e.to < n) (hn : 0 < n) (k : Int) : ∃ (a b : Nat) (c : Int), edOf k es = ⟨a, b, c⟩ ∧ a < n ∧ b < n := by
  rcases edOf_mem k es with hm | hm
  · obtain ⟨h1, h2, h3, h4⟩ := h _ hm
    revert h1 h2 h3 h4
    generalize edOf k es = x
    obtain ⟨a, b, c⟩ := x
    intro h1 h2 h3 h4
    simp only at h1 h2 h3 h4
    exact ⟨a.toNat, b.toNat, c, by rw [Int.toNat_of_nonneg h1, Int.toNat_of_nonneg h3], by omega, by omega⟩
  · exact ⟨0, 0, 0, hm, hn, hn⟩
def ReachPost (n : Nat) (w : World) (e : Ending) (w' : World) : Prop := ∃ bs : List Bool, e = .returned (.slice (some ⟨w.heap.size, 0, none⟩) n n) ∧ Row w' w.heap.size 4 (bs.map Value.bool) ∧ bs.length = n ∧ Nw w w'
theorem reachW {w : World} {G n : Nat} {ev sv : Value} {gi go : Nat} {es : List Ed} {Q : TP} {ps : List Pt} {ss : List (St × Value)} {root win : Int} (h : GQ w G n ev sv gi go es Q ps ss root win) (src : Nat) (hs : src < n) (steps : Bool) (no : Int) (hst : steps = true → 0 ≤ no → StOk es ss.length) :
    Calls Tryz.prog 146 #[.pointer (some ⟨G, 0, none⟩), .pointer (some ⟨Q.T, 0, none⟩), .int .i64 src, .bool steps, .int .i64 no] w (ReachPost n w) := by
  refine (reachG_any G n ev sv gi go es Q ps ss root win src steps no w h.gr h.ge h.tf.r (by have := h.hn; omega) hs h.ok (fun a b e he hc => hst a b e he hc)).mono ?_
  rintro e w' ⟨bs, h1, h2, h3, _, h5⟩
  exact ⟨bs, h1, h2, h3, h5⟩
theorem row_bool {w : World} {g : Nat} {bs : List Bool} (h : Row w g 4 (bs.map Value.bool)) {a n : Nat} (hl : bs.length = n) (ha : a < n) : ∃ b, w.cell? ⟨g, a, none⟩ = some (.bool b) := by
  refine ⟨bs[a]'(by omega), ?_⟩
  rw [h.cell, List.getElem?_map, List.getElem?_eq_getElem (by omega)]
  rfl
set_option maxRecDepth 100000 in
set_option maxHeartbeats 1000000 in
theorem always_any {w : World} {G n : Nat} {ev sv : Value} {gi go : Nat} {es : List Ed} {Q : TP} {ps : List Pt} {ss : List (St × Value)} {root win : Int} (h : GQ w G n ev sv gi go es Q ps ss root win) (hst : StOk es ss.length) (name k : Int) :
    Calls Tryz.prog 202 #[.pointer (some ⟨G, 0, none⟩), .pointer (some ⟨Q.T, 0, none⟩), .int .i64 name, .int .i64 k] w (BoolPost w) := by
  have H : Hid (GQ w G n ev sv gi go es Q ps ss root win) := h
  have c3 := h.gr.c3
  have HR := reachW h gi h.hgi true name (fun _ _ => hst)
  obtain ⟨a, b, c, he, ha, hb⟩ := edOf_ok h.ok (by have := h.hgi; omega) k
  have HE : Hid (edOf k es = ⟨a, b, c⟩) := he
  have hn := h.hn
  clear h he
  go_enter Tryz.func202, Tryz.ntmps202
  go_wp2_with fail
  refine HR.mono ?_
  rintro e w1 ⟨bs, rfl, hrow, hbl, k1⟩
  have hl1 := hrow.lt
  have R1 : Hid (Row w1 w.heap.size 4 (bs.map Value.bool)) := hrow
  have K1 : Hid (Nw w w1) := k1
  clear hrow k1 c3 HR
  go_wp2_with fail
  refine (edgeOf_any G ev es k w1 (H.out.nw K1.out).ge).mono ?_
  rintro e w2 ⟨rfl, k2⟩
  rw [HE.out]
  unfold edV
  have hl2 : w.heap.size < w2.heap.size := by have := k2.size; omega
  have K2 : Hid (Nw w w2) := K1.out.trans k2
  obtain ⟨x, cx⟩ := row_bool (R1.out.kp k2 (fun h => h)) hbl ha
  have hne : ¬ w.heap.size = w2.heap.size := by omega
  have hne2 : ¬ w2.heap.size = w.heap.size := by omega
  clear k2 R1
  go_wp2
  go_ret
  exact ⟨_, rfl, K2.out.alloc _⟩
set_option maxRecDepth 100000 in
set_option maxHeartbeats 1000000 in
theorem maybe_any {w : World} {G n : Nat} {ev sv : Value} {gi go : Nat} {es : List Ed} {Q : TP} {ps : List Pt} {ss : List (St × Value)} {root win : Int} (h : GQ w G n ev sv gi go es Q ps ss root win) (hst : StOk es ss.length) (name k : Int) :
    Calls Tryz.prog 201 #[.pointer (some ⟨G, 0, none⟩), .pointer (some ⟨Q.T, 0, none⟩), .int .i64 name, .int .i64 k] w (BoolPost w) := by
  have H : Hid (GQ w G n ev sv gi go es Q ps ss root win) := h
  have HST : Hid (StOk es ss.length) := hst
  obtain ⟨a, b, c, he, ha, hb⟩ := edOf_ok h.ok (by have := h.hgi; omega) k
  have HE : Hid (edOf k es = ⟨a, b, c⟩) := he
  have HEE : Hid (∀ j : Int, ∃ (a b : Nat) (c : Int), edOf j es = ⟨a, b, c⟩ ∧ a < n ∧ b < n) := fun j => edOf_ok h.ok (by have := h.hgi; omega) j
  have hn := h.hn
  have hns := h.tf.r.ns
  have HC := edgeOf_any G ev es k w h.ge
  clear h he hst
  obtain ⟨T, gp, cp, gt, ct⟩ := Q
  go_enter Tryz.func201, Tryz.ntmps201
  go_wp2_with fail
  refine HC.mono ?_
  rintro e w2 ⟨rfl, k2⟩
  rw [HE.out]
  unfold edV
  have K2 : Hid (Nw w w2) := k2
  have hl2 : w.heap.size ≤ w2.heap.size := k2.size
  clear k2 HC
  go_wp2
  go_loopg [10] ss.length (fun m v10 wr => ∃ i : Nat, v10 = .int .i64 i ∧ m = ss.length - i ∧ i ≤ ss.length ∧ Nw w wr ∧ wr.cell? ⟨w2.heap.size, 0, none⟩ = some (.int .i64 a) ∧ w2.heap.size < wr.heap.size)
  case atStart => exact ⟨0, rfl, rfl, by omega, K2.out.alloc _, by simp [go_sem], by simp⟩
  case round =>
    obtain ⟨i, rfl, hm, hi, hk, hca, hlt⟩ := hrel
    have K3 : Hid (Nw w wr) := hk
    have d1 := (H.out.nw hk).tf.r.c1
    simp only at d1
    clear hk K2
    by_cases hi' : i < ss.length
    · obtain ⟨x, hx⟩ : ∃ x, ss[i]? = some x := ⟨ss[i], by simp [hi']⟩
      have dx := ((H.out.nw K3.out).tf.r.step i x hx).2.1
      simp only at dx
      generalize x.1.name = xn at *
      clear hx
      by_cases hnm : xn = name
      · have hnm' : (xn == name) = true := by simp [hnm]
        obtain ⟨a2, b2, c2, he2, ha2, hb2⟩ := HEE.out (i : Int)
        have HE2 : Hid (edOf (i : Int) es = ⟨a2, b2, c2⟩) := he2
        clear hnm he2
        go_wp2_with fail
        refine (edgeOf_any G ev es i wr (H.out.nw K3.out).ge).mono ?_
        rintro e w4 ⟨rfl, k4⟩
        rw [HE2.out]
        unfold edV
        have K4 : Hid (Nw w w4) := K3.out.trans k4
        have hl4 := k4.size
        have hc4 : w4.cell? ⟨w2.heap.size, 0, none⟩ = some (.int .i64 a) := (k4.cell (p := ⟨w2.heap.size, 0, none⟩) hlt (fun h => h)).trans hca
        clear k4 d1 dx hca
        go_wp2_with fail
        refine (reachW (H.out.nw (K4.out.alloc _)) b2 hb2 true (-1) (fun _ h => by omega)).mono ?_
        rintro e w5 ⟨bs, rfl, hrow, hbl, k5⟩
        obtain ⟨x5, cx⟩ := row_bool hrow hbl ha
        have K5 : Hid (Nw w w5) := (K4.out.alloc _).trans k5
        have hl5 := k5.size
        have hc5 : w5.cell? ⟨w2.heap.size, 0, none⟩ = some (.int .i64 a) := by
          have kk : Nw w4 w5 := ((Kp.refl _ w4).alloc _).trans k5
          exact (kk.cell (p := ⟨w2.heap.size, 0, none⟩) (Nat.lt_of_lt_of_le hlt hl4) (fun h => h)).trans hc4
        have hsz : ∀ ob, (w4.alloc ob).heap.size = w4.heap.size + 1 := fun _ => by simp
        simp only [hsz] at cx hl5 ⊢
        clear k5 hrow hc4
        cases x5 with
        | true =>
          go_wp2
          go_ret
          exact ⟨_, rfl, K5.out⟩
        | false =>
          go_wp2
          go_roundg (ss.length - (i + 1))
          case measure => omega
          case rel => exact ⟨i + 1, by simp, rfl, by omega, K5.out, hc5, by omega⟩
      · have hnm' : (xn == name) = false := by simp [hnm]
        clear hnm
        go_wp2
        go_roundg (ss.length - (i + 1))
        case measure => omega
        case rel => exact ⟨i + 1, by simp, rfl, by omega, K3.out, hca, hlt⟩
    · go_wp2
      go_ret
      exact ⟨_, rfl, K3.out⟩
end Go.Proofs.YtcboiapggnmpfaaGreat

namespace Go.Proofs.YtcboiapggnmpfaaGreat
open Go.RowKit
set_option linter.unusedSimpArgs false
set_option linter.unusedVariables false

theorem owns_lenL {w : World} {base n size : Nat} {e : TypeId} {v : Value} {xs : List Value} (h : w.ownsRow base e size v n xs) : ∃ p c, v = .slice p n c := by
  rcases h.2 with ⟨h2, h3⟩ | ⟨g', cap', cur, h2, _⟩
  · exact ⟨none, 0, by rw [h2, h3]⟩
  · exact ⟨_, _, h2⟩
set_option maxRecDepth 100000 in
set_option maxHeartbeats 2000000 in
theorem readable_any {w : World} {G n : Nat} {ev sv : Value} {gi go : Nat} {es : List Ed} {Q : TP} {ps : List Pt} {ss : List (St × Value)} {root win : Int} (h : GQ w G n ev sv gi go es Q ps ss root win) (hst : StOk es ss.length) (sb : ByteArray) (hs : sb.size ≤ maxLen) (k : Nat) (hk : k < ss.length) (of field num : Int) :
    Calls Tryz.prog 153 #[.pointer (some ⟨G, 0, none⟩), .pointer (some ⟨Q.T, 0, none⟩), .string sb, .int .i64 k, .agg #[.int .i64 of, .int .i64 field, .int .i64 num]] w (BoolPost w) := by
  have H : Hid (∀ ob, GQ (w.alloc ob) G n ev sv gi go es Q ps ss root win) := fun ob => h.nw ((Kp.refl _ _).alloc ob)
  have HST : Hid (StOk es ss.length) := hst
  have hns := h.tf.r.ns
  have c1 := h.tf.r.c1
  have hT := h.tf.r.ltT
  have ht := h.tf.r.ltt
  obtain ⟨x, hx⟩ : ∃ x, ss[k]? = some x := ⟨ss[k], by simp [hk]⟩
  have d0 := (h.tf.r.step k x hx).1
  generalize x.1.kind = xk at *
  have HS : Hid (sb.size ≤ maxLen) := hs
  clear h hst hx hs
  by_cases h0 : of = 0
  · have g0 : (of == 0) = true := by simp [h0]
    clear h0
    go_enter Tryz.func153, Tryz.ntmps153
    go_wp2
    go_ret
    exact ⟨_, rfl, (Kp.refl _ w).alloc _⟩
  · have g0 : (of == 0) = false := by simp [h0]
    clear h0
    by_cases h1 : of = 1
    · have g1 : (of == 1) = true := by simp [h1]
      clear h1
      obtain ⟨T, gp, cp, gt, ct⟩ := Q
      simp only at c1 d0 hT ht
      have hn1 : ¬ T = w.heap.size := by omega
      have hn2 : ¬ gt = w.heap.size := by omega
      go_enter Tryz.func153, Tryz.ntmps153
      go_wp2_with fail
      refine (Has_any sb xk _ HS.out).mono ?_
      rintro e w1 ⟨rfl, hw1⟩
      have hw2 := hw1.symm
      subst hw2
      clear hw1
      go_wp2
      go_ret
      exact ⟨_, rfl, (Kp.refl _ w).alloc _⟩
    · have g1 : (of == 1) = false := by simp [h1]
      clear h1 c1 d0 hT ht
      go_enter Tryz.func153, Tryz.ntmps153
      go_wp2_with fail
      refine (always_any (H.out _) HST.out _ k).mono ?_
      rintro e w1 ⟨b1, rfl, k1⟩
      obtain ⟨kk, hl1, ⟨kc, kz⟩⟩ := k1.box (fun h => h)
      have K1 : Hid (Nw w w1) := kk
      have H1 : Hid (GQ w1 G n ev sv gi go es Q ps ss root win) := (H.out _).nw k1
      clear kk k1 kz
      go_wp2_with fail
      refine (kindOfR_any Q ps ss root win _ w1 H1.out.tf.r).mono ?_
      rintro e w2 ⟨rfl, hw1⟩
      have hw2 := hw1.symm
      subst hw2
      clear hw1
      generalize kOf _ ss = kd
      go_wp2_with fail
      refine (Has_any sb kd _ HS.out).mono ?_
      rintro e w2 ⟨rfl, hw1⟩
      have hw2 := hw1.symm
      subst hw2
      clear hw1
      generalize hasF (bI sb) kd = hf
      cases b1 with
      | false =>
        go_wp2
        go_ret
        exact ⟨_, rfl, K1.out⟩
      | true =>
        by_cases hkd : 0 ≤ kd
        · go_wp2
          go_ret
          exact ⟨_, rfl, K1.out⟩
        · have hkd' : decide (0 ≤ kd) = false := by simp; omega
          go_wp2
          go_ret
          exact ⟨_, rfl, K1.out⟩
set_option maxRecDepth 100000 in
set_option maxHeartbeats 2000000 in
theorem named_any {w : World} {G n : Nat} {ev sv : Value} {gi go : Nat} {es : List Ed} {Q : TP} {ps : List Pt} {ss : List (St × Value)} {root : Nat} {win : Int} (h : GQ w G n ev sv gi go es Q ps ss root win) (hst : StOk es ss.length) (hwf : WfP ps ss.length) (hr : root < ps.length) (k : Nat) (hk : k < ss.length) :
    Calls Tryz.prog 152 #[.pointer (some ⟨G, 0, none⟩), .pointer (some ⟨Q.T, 0, none⟩), .int .i64 k] w (BoolPost w) := by
  have H : Hid (GQ w G n ev sv gi go es Q ps ss root win) := h
  have HA : Hid (∀ ob, GQ (w.alloc ob) G n ev sv gi go es Q ps ss root win) := fun ob => h.nw ((Kp.refl _ _).alloc ob)
  have HST : Hid (StOk es ss.length) := hst
  have HWF : Hid (WfP ps ss.length) := hwf
  have hns := h.tf.r.ns
  have c1 := h.tf.r.c1
  have c2 := h.tf.r.c2
  have hT := h.tf.r.ltT
  have ht := h.tf.r.ltt
  obtain ⟨x, hx⟩ : ∃ x, ss[k]? = some x := ⟨ss[k], by simp [hk]⟩
  obtain ⟨d0, d1, d2, d3⟩ := h.tf.r.step k x hx
  have hxo := h.tf.tests x (List.mem_of_getElem? hx)
  obtain ⟨⟨xk, xn, xp, xt⟩, xv⟩ := x
  obtain ⟨tp, tc, hxv⟩ := owns_lenL hxo
  simp only at d0 d1 d2 d3 hxv
  subst hxv
  clear hxo
  have hnp := h.tf.r.np
  clear h hst hx hwf
  obtain ⟨T, gp, cp, gt, ct⟩ := Q
  simp only at c1 c2 d0 d1 d2 d3 hT ht
  have hn1 : ¬ T = w.heap.size := by omega
  have hn2 : ¬ gt = w.heap.size := by omega
  go_enter Tryz.func152, Tryz.ntmps152
  go_wp2_with fail
  refine (withinR_any ⟨T, gp, cp, gt, ct⟩ ps ss root win ss.length HWF.out k (root + 1) root (by omega) hr false _ (HA.out _).tf.r).mono ?_
  rintro e w1 ⟨b1, rfl, k1⟩
  obtain ⟨kk, hl1, ⟨kc, kz⟩⟩ := k1.box (fun h => h)
  have K1 : Hid (Nw w w1) := kk
  have H1 : Hid (GQ w1 G n ev sv gi go es ⟨T, gp, cp, gt, ct⟩ ps ss root win) := H.out.nw kk
  have m0 : w1.cell? ⟨w.heap.size, 0, none⟩ = some (.int .i64 xk) := by rw [kc]; simp [go_sem]
  have m1 : w1.cell? ⟨w.heap.size, 1, none⟩ = some (.int .i64 xn) := by rw [kc]; simp [go_sem]
  clear kk k1 kz kc c1 c2 d0 d1 d2 d3
  go_wp2_with fail
  refine (maybe_any H1.out HST.out xn k).mono ?_
  rintro e w2 ⟨b2, rfl, k2⟩
  have K2 : Hid (Nw w w2) := K1.out.trans k2
  have n0 := (k2.cell (p := ⟨w.heap.size, 0, none⟩) hl1 (fun h => h)).trans m0
  have n1 := (k2.cell (p := ⟨w.heap.size, 1, none⟩) hl1 (fun h => h)).trans m1
  have hl2 : w.heap.size < w2.heap.size := Nat.lt_of_lt_of_le hl1 k2.size
  have e1 := (H.out.nw K2.out).tf.r.c1
  simp only at e1
  have HSP : Hid (∀ (i : Nat) (x : St × Value), ss[i]? = some x → w2.cell? ⟨gt, i * 4, none⟩ = some (.int .i64 x.1.kind) ∧ w2.cell? ⟨gt, i * 4 + 1, none⟩ = some (.int .i64 x.1.name)) := fun i x hx => ⟨((H.out.nw K2.out).tf.r.step i x hx).1, ((H.out.nw K2.out).tf.r.step i x hx).2.1⟩
  clear k2 m0 m1
  by_cases hb : b1 = true ∨ b2 = true
  · rcases hb with rfl | rfl
    · go_wp2
      go_ret
      exact ⟨_, rfl, K2.out⟩
    · cases b1 with
      | true =>
        go_wp2
        go_ret
        exact ⟨_, rfl, K2.out⟩
      | false =>
        go_wp2
        go_ret
        exact ⟨_, rfl, K2.out⟩
  · obtain ⟨rfl, rfl⟩ : b1 = false ∧ b2 = false := by cases b1 <;> cases b2 <;> simp at hb ⊢
    clear hb
    go_wp2
    go_loopg [10] k (fun m v10 wr => ∃ i j : Nat, v10 = .int .i64 i ∧ m = k - i ∧ i ≤ k ∧ wr = w2.drewN j)
    case atStart => exact ⟨0, 0, rfl, rfl, by omega, rfl⟩
    case round =>
      obtain ⟨i, jd, rfl, hm, hi, rfl⟩ := hrel
      by_cases hi' : i < k
      · obtain ⟨y, hy⟩ : ∃ y, ss[i]? = some y := ⟨ss[i]'(by omega), List.getElem?_eq_getElem (by omega)⟩
        obtain ⟨f0, f1⟩ := HSP.out i y hy
        generalize y.1.kind = yk at *
        generalize y.1.name = yn at *
        have hii : (i : Int) < ss.length := by omega
        clear hy
        by_cases hnm : yn = xn
        · have hnm' : (yn == xn) = true := by simp [hnm]
          clear hnm
          by_cases hkd : yk = xk
          · have hkd' : (yk != xk) = false := by simp [hkd]
            clear hkd
            go_wp2
            go_quiet (fail)
            go_wp2
            go_roundg (k - (i + 1))
            case measure => omega
            case rel => exact ⟨i + 1, _, by simp, rfl, by omega, rfl⟩
          · have hkd' : (yk != xk) = true := by simp [hkd]
            clear hkd
            go_wp2
            go_quiet (fail)
            go_wp2
            go_ret
            exact ⟨_, rfl, (K2.out.drewN _).drewN _⟩
        · have hnm' : (yn == xn) = false := by simp [hnm]
          clear hnm
          go_wp2
          go_quiet (fail)
          go_wp2
          go_roundg (k - (i + 1))
          case measure => omega
          case rel => exact ⟨i + 1, _, by simp, rfl, by omega, rfl⟩
      · go_wp2
        go_ret
        exact ⟨_, rfl, K2.out.drewN _⟩
end Go.Proofs.YtcboiapggnmpfaaGreat
