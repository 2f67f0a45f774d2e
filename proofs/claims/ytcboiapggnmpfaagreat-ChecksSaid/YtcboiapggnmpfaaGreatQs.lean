/- Walks: spotterref: held on every way, on some way: just so. -/
import Derived.Test.YtcboiapggnmpfaaGreatQi
import Derived.Test.YtcboiapggnmpfaaGreatQf
namespace Go.Proofs.YtcboiapggnmpfaaGreat
open Go.RowKit
set_option linter.unusedSimpArgs false
set_option linter.unusedVariables false

/-- A bool that says just whether p. -/
def SaysPost (w : World) (p : Prop) (e : Ending) (w' : World) : Prop := ∃ b : Bool, e = .returned (.bool b) ∧ (b = true ↔ p) ∧ Nw w w'
def ReachS (ok : Ed → Prop) (es : List Ed) (src n : Nat) (w : World) (e : Ending) (w' : World) : Prop := ∃ bs : List Bool, e = .returned (.slice (some ⟨w.heap.size, 0, none⟩) n n) ∧ Row w' w.heap.size 4 (bs.map Value.bool) ∧ bs.length = n ∧ (∀ x : Nat, bs[x]? = some true ↔ Rc ok es src x) ∧ Nw w w'
theorem reachS {w : World} {G n : Nat} {ev sv : Value} {gi go : Nat} {es : List Ed} {Q : TP} {ps : List Pt} {ss : List (St × Value)} {root win : Int} (h : GQ w G n ev sv gi go es Q ps ss root win) (src : Nat) (hs : src < n) (steps : Bool) (no : Int) (hst : steps = true → 0 ≤ no → StOk es ss.length) :
    Calls Tryz.prog 146 #[.pointer (some ⟨G, 0, none⟩), .pointer (some ⟨Q.T, 0, none⟩), .int .i64 src, .bool steps, .int .i64 no] w (ReachS (okE ss steps no) es src n w) :=
  (reachG_any G n ev sv gi go es Q ps ss root win src steps no w h.gr h.ge h.tf.r (by have := h.hn; omega) hs h.ok (fun a b e he hc => hst a b e he hc)).mono (fun e w' h => h)
theorem row_boolS {w : World} {g : Nat} {bs : List Bool} (h : Row w g 4 (bs.map Value.bool)) {a n : Nat} (hl : bs.length = n) (ha : a < n) : ∃ b, w.cell? ⟨g, a, none⟩ = some (.bool b) ∧ bs[a]? = some b := by
  refine ⟨bs[a]'(by omega), ?_, List.getElem?_eq_getElem (by omega)⟩
  rw [h.cell, List.getElem?_map, List.getElem?_eq_getElem (by omega)]
  rfl
set_option maxRecDepth 100000 in
set_option maxHeartbeats 1000000 in
theorem alwaysS_any {w : World} {G n : Nat} {ev sv : Value} {gi go : Nat} {es : List Ed} {Q : TP} {ps : List Pt} {ss : List (St × Value)} {root win : Int} (h : GQ w G n ev sv gi go es Q ps ss root win) (hst : StOk es ss.length) (name k : Int) :
    Calls Tryz.prog 202 #[.pointer (some ⟨G, 0, none⟩), .pointer (some ⟨Q.T, 0, none⟩), .int .i64 name, .int .i64 k] w (SaysPost w (¬ Rc (okE ss true name) es gi (edOf k es).fr.toNat)) := by
  have H : Hid (GQ w G n ev sv gi go es Q ps ss root win) := h
  have c3 := h.gr.c3
  have HR := reachS h gi h.hgi true name (fun _ _ => hst)
  obtain ⟨a, b, c, he, ha, hb⟩ := edOf_ok h.ok (by have := h.hgi; omega) k
  have HE : Hid (edOf k es = ⟨a, b, c⟩) := he
  have hn := h.hn
  clear h he
  rw [HE.out]
  go_enter Tryz.func202, Tryz.ntmps202
  go_wp2_with fail
  refine HR.mono ?_
  rintro e w1 ⟨bs, rfl, hrow, hbl, hiff, k1⟩
  have hl1 := hrow.lt
  have R1 : Hid (Row w1 w.heap.size 4 (bs.map Value.bool)) := hrow
  have K1 : Hid (Nw w w1) := k1
  have HIF : Hid (∀ x : Nat, bs[x]? = some true ↔ Rc (okE ss true name) es gi x) := hiff
  clear hrow k1 c3 HR hiff
  go_wp2_with fail
  refine (edgeOf_any G ev es k w1 (H.out.nw K1.out).ge).mono ?_
  rintro e w2 ⟨rfl, k2⟩
  rw [HE.out]
  unfold edV
  have hl2 : w.heap.size < w2.heap.size := by have := k2.size; omega
  have K2 : Hid (Nw w w2) := K1.out.trans k2
  obtain ⟨x, cx, hx⟩ := row_boolS (R1.out.kp k2 (fun h => h)) hbl ha
  have HX : Hid (bs[a]? = some x) := hx
  have hne : ¬ w.heap.size = w2.heap.size := by omega
  have hne2 : ¬ w2.heap.size = w.heap.size := by omega
  clear k2 R1 hx
  go_wp2
  go_ret
  refine ⟨!x, rfl, ?_, K2.out.alloc _⟩
  have h1 := HIF.out a
  rw [HX.out] at h1
  simp only [Int.toNat_natCast]
  rw [← h1]
  cases x <;> simp
set_option maxRecDepth 100000 in
set_option maxHeartbeats 1000000 in
theorem maybeS_any {w : World} {G n : Nat} {ev sv : Value} {gi go : Nat} {es : List Ed} {Q : TP} {ps : List Pt} {ss : List (St × Value)} {root win : Int} (h : GQ w G n ev sv gi go es Q ps ss root win) (hst : StOk es ss.length) (name k : Int) :
    Calls Tryz.prog 201 #[.pointer (some ⟨G, 0, none⟩), .pointer (some ⟨Q.T, 0, none⟩), .int .i64 name, .int .i64 k] w (SaysPost w (∃ (i : Nat) (x : St × Value), ss[i]? = some x ∧ x.1.name = name ∧ Rc (okE ss true (-1)) es (edOf (i : Int) es).to.toNat (edOf k es).fr.toNat)) := by
  have H : Hid (GQ w G n ev sv gi go es Q ps ss root win) := h
  have HST : Hid (StOk es ss.length) := hst
  obtain ⟨a, b, c, he, ha, hb⟩ := edOf_ok h.ok (by have := h.hgi; omega) k
  have HE : Hid (edOf k es = ⟨a, b, c⟩) := he
  have HEE : Hid (∀ j : Int, ∃ (a b : Nat) (c : Int), edOf j es = ⟨a, b, c⟩ ∧ a < n ∧ b < n) := fun j => edOf_ok h.ok (by have := h.hgi; omega) j
  have hn := h.hn
  have hns := h.tf.r.ns
  have HC := edgeOf_any G ev es k w h.ge
  obtain ⟨pr, hpr⟩ : ∃ pr : Nat → Prop, pr = fun (i : Nat) => ∃ x : St × Value, ss[i]? = some x ∧ x.1.name = name ∧ Rc (okE ss true (-1)) es (edOf (i : Int) es).to.toNat a := ⟨_, rfl⟩
  have HPR : Hid (pr = fun (i : Nat) => ∃ x : St × Value, ss[i]? = some x ∧ x.1.name = name ∧ Rc (okE ss true (-1)) es (edOf (i : Int) es).to.toNat a) := hpr
  have hgoal : (∃ (i : Nat) (x : St × Value), ss[i]? = some x ∧ x.1.name = name ∧ Rc (okE ss true (-1)) es (edOf (i : Int) es).to.toNat (edOf k es).fr.toNat) = ∃ i, pr i := by
    rw [hpr, he]
    simp only [Int.toNat_natCast]
  rw [hgoal]
  clear h he hst hpr hgoal
  obtain ⟨T, gp, cp, gt, ct⟩ := Q
  go_enter Tryz.func201, Tryz.ntmps201
  go_wp2_with fail
  refine HC.mono ?_
  rintro e w2 ⟨rfl, k2⟩
  rw [HE.out]
  unfold edV
  have K2 : Hid (Nw w w2) := k2
  have hl2 : w.heap.size ≤ w2.heap.size := k2.size
  clear k2 HC
  go_wp2
  go_loopg [10] ss.length (fun m v10 wr => ∃ i : Nat, v10 = .int .i64 i ∧ m = ss.length - i ∧ i ≤ ss.length ∧ Nw w wr ∧ wr.cell? ⟨w2.heap.size, 0, none⟩ = some (.int .i64 a) ∧ w2.heap.size < wr.heap.size ∧ ∀ j, j < i → ¬ pr j)
  case atStart => exact ⟨0, rfl, rfl, by omega, K2.out.alloc _, by simp [go_sem], by simp, by intro j hj; omega⟩
  case round =>
    obtain ⟨i, rfl, hm, hi, hk, hca, hlt, hno⟩ := hrel
    have K3 : Hid (Nw w wr) := hk
    have HNO : Hid (∀ j, j < i → ¬ pr j) := hno
    have d1 := (H.out.nw hk).tf.r.c1
    simp only at d1
    clear hk K2 hno
    by_cases hi' : i < ss.length
    · obtain ⟨x, hx⟩ : ∃ x, ss[i]? = some x := ⟨ss[i], by simp [hi']⟩
      have dx := ((H.out.nw K3.out).tf.r.step i x hx).2.1
      simp only at dx
      have HX : Hid (ss[i]? = some x) := hx
      obtain ⟨xn, hxn⟩ : ∃ xn, x.1.name = xn := ⟨_, rfl⟩
      rw [hxn] at dx
      have HXN : Hid (x.1.name = xn) := hxn
      clear hx hxn
      by_cases hnm : xn = name
      · have hnm' : (xn == name) = true := by simp [hnm]
        have HNM : Hid (xn = name) := hnm
        obtain ⟨a2, b2, c2, he2, ha2, hb2⟩ := HEE.out (i : Int)
        have HE2 : Hid (edOf (i : Int) es = ⟨a2, b2, c2⟩) := he2
        clear hnm he2
        go_wp2_with fail
        refine (edgeOf_any G ev es i wr (H.out.nw K3.out).ge).mono ?_
        rintro e w4 ⟨rfl, k4⟩
        rw [HE2.out]
        unfold edV
        have K4 : Hid (Nw w w4) := K3.out.trans k4
        have hl4 := k4.size
        have hc4 : w4.cell? ⟨w2.heap.size, 0, none⟩ = some (.int .i64 a) := (k4.cell (p := ⟨w2.heap.size, 0, none⟩) hlt (fun h => h)).trans hca
        clear k4 d1 dx hca
        go_wp2_with fail
        refine (reachS (H.out.nw (K4.out.alloc _)) b2 hb2 true (-1) (fun _ h => by omega)).mono ?_
        rintro e w5 ⟨bs, rfl, hrow, hbl, hiff, k5⟩
        obtain ⟨x5, cx, hx5⟩ := row_boolS hrow hbl ha
        have K5 : Hid (Nw w w5) := (K4.out.alloc _).trans k5
        have hl5 := k5.size
        have hc5 : w5.cell? ⟨w2.heap.size, 0, none⟩ = some (.int .i64 a) := by
          have kk : Nw w4 w5 := ((Kp.refl _ w4).alloc _).trans k5
          exact (kk.cell (p := ⟨w2.heap.size, 0, none⟩) (Nat.lt_of_lt_of_le hlt hl4) (fun h => h)).trans hc4
        have HPI : Hid (x5 = true ↔ pr i) := by
          have h1 := hiff a
          rw [hx5] at h1
          show _ ↔ _
          rw [HPR.out]
          constructor
          · intro h
            exact ⟨x, HX.out, by rw [HXN.out, HNM.out], by rw [HE2.out]; simp only [Int.toNat_natCast]; exact h1.1 (by rw [h])⟩
          · rintro ⟨y, hy, hyn, hr⟩
            rw [HE2.out] at hr
            simp only [Int.toNat_natCast] at hr
            have := h1.2 hr
            simpa using this
        have hsz : ∀ ob, (w4.alloc ob).heap.size = w4.heap.size + 1 := fun _ => by simp
        simp only [hsz] at cx hl5 ⊢
        clear k5 hrow hc4 hiff hx5
        cases x5 with
        | true =>
          go_wp2
          go_ret
          exact ⟨true, rfl, ⟨fun _ => ⟨i, HPI.out.1 (by first | rfl | trivial)⟩, fun _ => rfl⟩, K5.out⟩
        | false =>
          have HNO2 : Hid (∀ j, j < i + 1 → ¬ pr j) := by
            intro j hj hp
            by_cases e : j = i
            · subst e; have := HPI.out.2 hp; simp at this
            · exact HNO.out j (by omega) hp
          go_wp2
          go_roundg (ss.length - (i + 1))
          case measure => omega
          case rel => exact ⟨i + 1, by simp, rfl, by omega, K5.out, hc5, by omega, HNO2.out⟩
      · have hnm' : (xn == name) = false := by simp [hnm]
        have HNO2 : Hid (∀ j, j < i + 1 → ¬ pr j) := by
          intro j hj hp
          by_cases e : j = i
          · subst e
            rw [HPR.out] at hp
            obtain ⟨y, hy, hyn, _⟩ := hp
            rw [HX.out] at hy
            cases hy
            exact hnm (by rw [← HXN.out, hyn])
          · exact HNO.out j (by omega) hp
        clear hnm
        go_wp2
        go_roundg (ss.length - (i + 1))
        case measure => omega
        case rel => exact ⟨i + 1, by simp, rfl, by omega, K3.out, hca, hlt, HNO2.out⟩
    · have HNO2 : Hid (¬ ∃ j, pr j) := by
        rintro ⟨j, hp⟩
        by_cases e : j < i
        · exact HNO.out j e hp
        · rw [HPR.out] at hp
          obtain ⟨y, hy, _⟩ := hp
          have := (List.getElem?_eq_some_iff.1 hy).1
          omega
      go_wp2
      go_ret
      exact ⟨false, rfl, ⟨(by intro h; cases h), fun h => absurd h HNO2.out⟩, K3.out⟩
end Go.Proofs.YtcboiapggnmpfaaGreat

namespace Go.Proofs.YtcboiapggnmpfaaGreat
open Go.RowKit
set_option linter.unusedSimpArgs false
set_option linter.unusedVariables false

/-- Does step k stand in part i, in a repetition (deep: part i itself stands in one)? -/
def wi (ps : List Pt) : Nat → Nat → Int → Bool → Bool
  | 0, _, _, _ => false
  | f + 1, i, k, deep =>
    match ps[i]? with
    | none => false
    | some x =>
      if x.op = 0 then (deep && (x.step == k)) else
      if x.op = 3 then wi ps f x.left.toNat k true
      else (wi ps f x.left.toNat k deep || wi ps f x.right.toNat k deep)
def BoolIs (w : World) (b : Bool) (e : Ending) (w' : World) : Prop := e = .returned (.bool b) ∧ Nw w w'
set_option maxRecDepth 100000 in
set_option maxHeartbeats 1000000 in
theorem withinS_any (Q : TP) (ps : List Pt) (ss : List (St × Value)) (root win : Int) (ns : Nat) (hwf : WfP ps ns) (k : Int) : ∀ (f i : Nat), i < f → i < ps.length → ∀ (deep : Bool) (w : World), TreeR w Q ps ss root win →
    Calls Tryz.prog 200 #[.pointer (some ⟨Q.T, 0, none⟩), .int .i64 i, .int .i64 k, .bool deep] w (BoolIs w (wi ps f i k deep)) := by
  intro f
  induction f with
  | zero => intro i hi; omega
  | succ f ih =>
    intro i hi hil deep w h
    obtain ⟨x, hx⟩ : ∃ x, ps[i]? = some x := ⟨ps[i], by simp [hil]⟩
    have hw := hwf i x hx
    obtain ⟨d0, d1, d2, d3, d4, d5⟩ := h.part i x hx
    have c0 := h.c0
    have hT := h.ltT
    have hp := h.ltp
    have hnp := h.np
    have H : Hid (TreeR w Q ps ss root win) := h
    have HI : Hid (∀ i : Nat, i < f → i < ps.length → ∀ (deep : Bool) (w : World), TreeR w Q ps ss root win → Calls Tryz.prog 200 #[.pointer (some ⟨Q.T, 0, none⟩), .int .i64 i, .int .i64 k, .bool deep] w (BoolIs w (wi ps f i k deep))) := ih
    have HW : Hid (wi ps (f + 1) i k deep = if x.op = 0 then (deep && (x.step == k)) else if x.op = 3 then wi ps f x.left.toNat k true else (wi ps f x.left.toNat k deep || wi ps f x.right.toNat k deep)) := by show _ = _; simp only [wi, hx]
    generalize wi ps (f + 1) i k deep = R at *
    clear h ih hx hwf
    obtain ⟨T, gp, cp, gt, ct⟩ := Q
    simp only at c0 hT hp d0 d1 d2 d3 d4 d5
    have hn1 : ¬ T = w.heap.size := by omega
    have hn2 : ¬ gp = w.heap.size := by omega
    obtain ⟨op, left, right, low, high, step⟩ := x
    simp only at hw d0 d1 d2 d3 d4 d5
    have HC : Hid (∀ ob, TreeR (w.alloc ob) ⟨T, gp, cp, gt, ct⟩ ps ss root win) := fun ob => H.out.nw ((Kp.refl _ _).alloc _)
    rcases hw with ⟨rfl, _⟩ | ⟨rfl, l0, l1, _⟩ | ⟨hop, l0, l1, r0, r1⟩
    · have HR : Hid (R = (deep && (step == k))) := by have := HW.out; show _ = _; simpa using this
      clear HW
      cases deep with
      | false =>
        go_enter Tryz.func200, Tryz.ntmps200
        go_wp2
        go_ret
        exact ⟨by rw [HR.out]; rfl, (Kp.refl _ w).alloc _⟩
      | true =>
        go_enter Tryz.func200, Tryz.ntmps200
        go_wp2
        go_ret
        exact ⟨by rw [HR.out]; simp, (Kp.refl _ w).alloc _⟩
    · obtain ⟨nl, rfl⟩ : ∃ nl : Nat, left = nl := ⟨left.toNat, by omega⟩
      have HR : Hid (R = wi ps f nl k true) := by have := HW.out; show _ = _; simpa using this
      have hI := HI.out nl (by omega) (by omega) true
      generalize wi ps f nl k true = b at *
      clear HW HI
      go_enter Tryz.func200, Tryz.ntmps200
      go_wp2_with fail
      refine (hI _ (HC.out _)).mono ?_
      rintro e w1 ⟨rfl, k1⟩
      go_wp2
      go_ret
      exact ⟨by rw [HR.out]; rfl, ((Kp.refl _ w).alloc _).trans k1⟩
    · obtain ⟨nl, rfl⟩ : ∃ nl : Nat, left = nl := ⟨left.toNat, by omega⟩
      obtain ⟨nr, rfl⟩ : ∃ nr : Nat, right = nr := ⟨right.toNat, by omega⟩
      have HR : Hid (R = (wi ps f nl k deep || wi ps f nr k deep)) := by
        have := HW.out
        have h0 : ¬ op = 0 := by omega
        have h3 : ¬ op = 3 := by omega
        rw [if_neg h0, if_neg h3] at this
        show _ = _
        simpa using this
      have hI := HI.out nl (by omega) (by omega) deep
      have hJ := HI.out nr (by omega) (by omega) deep
      generalize wi ps f nl k deep = b1 at *
      generalize wi ps f nr k deep = b2 at *
      clear HW HI
      rcases hop with rfl | rfl
      all_goals
        go_enter Tryz.func200, Tryz.ntmps200
        go_wp2_with fail
        refine (hI _ (HC.out _)).mono ?_
        rintro e w1 ⟨rfl, k1⟩
        obtain ⟨kk, hl1, ⟨kc, kz⟩⟩ := k1.box (fun h => h)
        have K1 : Hid (Nw w w1) := kk
        have H1 : Hid (TreeR w1 ⟨T, gp, cp, gt, ct⟩ ps ss root win) := H.out.nw kk
        clear kk k1
        go_wp2_with fail
        refine (hJ _ H1.out).mono ?_
        rintro e w2 ⟨rfl, k2⟩
        have K2 : Hid (Nw w w2) := K1.out.trans k2
        clear k2 kc kz
        cases b1 with
        | true =>
          go_wp2
          go_ret
          exact ⟨by rw [HR.out]; rfl, K2.out⟩
        | false =>
          go_wp2
          go_ret
          exact ⟨by rw [HR.out]; simp, K2.out⟩
end Go.Proofs.YtcboiapggnmpfaaGreat

namespace Go.Proofs.YtcboiapggnmpfaaGreat
open Go.RowKit
set_option linter.unusedSimpArgs false
set_option linter.unusedVariables false

/-- May step k, of this kind, read this term? -/
def ReadP (hs : Int → Int) (ss : List (St × Value)) (es : List Ed) (gi : Nat) (k : Nat) (kind of field : Int) : Prop :=
  of = 0 ∨ (of = 1 ∧ field ≤ hs kind) ∨ (¬ of = 0 ∧ ¬ of = 1 ∧ ¬ Rc (okE ss true (of - 2)) es gi (edOf (k : Int) es).fr.toNat ∧ 0 ≤ kOf (of - 2) ss ∧ field ≤ hs (kOf (of - 2) ss))
set_option maxRecDepth 100000 in
set_option maxHeartbeats 2000000 in
theorem readableS_any {w : World} {G n : Nat} {ev sv : Value} {gi go : Nat} {es : List Ed} {Q : TP} {ps : List Pt} {ss : List (St × Value)} {root win : Int} (h : GQ w G n ev sv gi go es Q ps ss root win) (hst : StOk es ss.length) (sb : ByteArray) (hs : sb.size ≤ maxLen) (k : Nat) (x : St × Value) (hx : ss[k]? = some x) (of field num : Int) (hof : 0 ≤ of ∧ of ≤ 1000) :
    Calls Tryz.prog 153 #[.pointer (some ⟨G, 0, none⟩), .pointer (some ⟨Q.T, 0, none⟩), .string sb, .int .i64 k, .agg #[.int .i64 of, .int .i64 field, .int .i64 num]] w (SaysPost w (ReadP (hasF (bI sb)) ss es gi k x.1.kind of field)) := by
  have H : Hid (∀ ob, GQ (w.alloc ob) G n ev sv gi go es Q ps ss root win) := fun ob => h.nw ((Kp.refl _ _).alloc ob)
  have HST : Hid (StOk es ss.length) := hst
  have hns := h.tf.r.ns
  have c1 := h.tf.r.c1
  have hT := h.tf.r.ltT
  have ht := h.tf.r.ltt
  have hk := (List.getElem?_eq_some_iff.1 hx).1
  have d0 := (h.tf.r.step k x hx).1
  generalize x.1.kind = xk at *
  have HS : Hid (sb.size ≤ maxLen) := hs
  obtain ⟨hof0, hof1⟩ := hof
  clear h hst hx hs
  by_cases h0 : of = 0
  · have g0 : (of == 0) = true := by simp [h0]
    have HP : Hid (ReadP (hasF (bI sb)) ss es gi k xk of field) := Or.inl h0
    generalize ReadP (hasF (bI sb)) ss es gi k xk of field = pp at *
    clear h0
    go_enter Tryz.func153, Tryz.ntmps153
    go_wp2
    go_ret
    exact ⟨true, rfl, ⟨fun _ => HP.out, fun _ => rfl⟩, (Kp.refl _ w).alloc _⟩
  · have g0 : (of == 0) = false := by simp [h0]
    by_cases h1 : of = 1
    · have g1 : (of == 1) = true := by simp [h1]
      have HP : Hid (ReadP (hasF (bI sb)) ss es gi k xk of field ↔ field ≤ hasF (bI sb) xk) := by
        constructor
        · rintro (h | ⟨_, h⟩ | ⟨_, h, _⟩)
          · exact absurd h h0
          · exact h
          · exact absurd h1 h
        · intro h; exact Or.inr (Or.inl ⟨h1, h⟩)
      generalize ReadP (hasF (bI sb)) ss es gi k xk of field = pp at *
      clear h1 h0
      obtain ⟨T, gp, cp, gt, ct⟩ := Q
      simp only at c1 d0 hT ht
      have hn1 : ¬ T = w.heap.size := by omega
      have hn2 : ¬ gt = w.heap.size := by omega
      go_enter Tryz.func153, Tryz.ntmps153
      go_wp2_with fail
      refine (Has_any sb xk _ HS.out).mono ?_
      rintro e w1 ⟨rfl, hw1⟩
      have hw2 := hw1.symm
      subst hw2
      clear hw1
      generalize hasF (bI sb) xk = hv at *
      go_wp2
      go_ret
      exact ⟨decide (field ≤ hv), rfl, by rw [HP.out]; simp, (Kp.refl _ w).alloc _⟩
    · have g1 : (of == 1) = false := by simp [h1]
      have HP : Hid (ReadP (hasF (bI sb)) ss es gi k xk of field ↔ (¬ Rc (okE ss true (of - 2)) es gi (edOf (k : Int) es).fr.toNat) ∧ 0 ≤ kOf (of - 2) ss ∧ field ≤ hasF (bI sb) (kOf (of - 2) ss)) := by
        constructor
        · rintro (h | ⟨h, _⟩ | ⟨_, _, h⟩)
          · exact absurd h h0
          · exact absurd h h1
          · exact h
        · intro h; exact Or.inr (Or.inr ⟨h0, h1, h⟩)
      generalize ReadP (hasF (bI sb)) ss es gi k xk of field = pp at *
      have HAL : Hid (∀ ob, Calls Tryz.prog 202 #[.pointer (some ⟨G, 0, none⟩), .pointer (some ⟨Q.T, 0, none⟩), .int .i64 (of - 2), .int .i64 k] (w.alloc ob) (SaysPost (w.alloc ob) (¬ Rc (okE ss true (of - 2)) es gi (edOf (k : Int) es).fr.toNat))) := fun ob => alwaysS_any (H.out ob) HST.out (of - 2) k
      generalize (¬ Rc (okE ss true (of - 2)) es gi (edOf (k : Int) es).fr.toNat) = pa at *
      clear h1 h0 c1 d0 hT ht
      go_enter Tryz.func153, Tryz.ntmps153
      go_wp2_with fail
      refine (HAL.out _).mono ?_
      rintro e w1 ⟨b1, rfl, hb1, k1⟩
      obtain ⟨kk, hl1, ⟨kc, kz⟩⟩ := k1.box (fun h => h)
      have K1 : Hid (Nw w w1) := kk
      have HB1 : Hid (b1 = true ↔ pa) := hb1
      have H1 : Hid (GQ w1 G n ev sv gi go es Q ps ss root win) := (H.out _).nw k1
      clear kk k1 kz hb1 HAL
      go_wp2_with fail
      refine (kindOfR_any Q ps ss root win _ w1 H1.out.tf.r).mono ?_
      rintro e w2 ⟨rfl, hw1⟩
      have hw2 := hw1.symm
      subst hw2
      clear hw1
      generalize kOf (of - 2) ss = kd at *
      go_wp2_with fail
      refine (Has_any sb kd _ HS.out).mono ?_
      rintro e w2 ⟨rfl, hw1⟩
      have hw2 := hw1.symm
      subst hw2
      clear hw1
      generalize hasF (bI sb) kd = hv at *
      cases b1 with
      | false =>
        have HF : Hid (¬ pp) := by
          intro hp
          have := HB1.out.2 (HP.out.1 hp).1
          simp at this
        go_wp2
        go_ret
        exact ⟨false, rfl, ⟨(by intro h; cases h), fun h => absurd h HF.out⟩, K1.out⟩
      | true =>
        have HPA : Hid pa := HB1.out.1 (by first | rfl | trivial)
        by_cases hkd : 0 ≤ kd
        · have HQ : Hid (pp ↔ field ≤ hv) := ⟨fun h => (HP.out.1 h).2.2, fun h => HP.out.2 ⟨HPA.out, hkd, h⟩⟩
          go_wp2
          go_ret
          exact ⟨decide (field ≤ hv), rfl, by rw [HQ.out]; simp, K1.out⟩
        · have hkd' : decide (0 ≤ kd) = false := by simp; omega
          have HF : Hid (¬ pp) := fun h => hkd (HP.out.1 h).2.1
          go_wp2
          go_ret
          exact ⟨false, rfl, ⟨(by intro h; cases h), fun h => absurd h HF.out⟩, K1.out⟩
end Go.Proofs.YtcboiapggnmpfaaGreat
