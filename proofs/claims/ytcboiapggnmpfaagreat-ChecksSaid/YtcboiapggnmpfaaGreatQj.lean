/- Walks: spotterref: is a step right. -/
import Derived.Test.YtcboiapggnmpfaaGreatQi
import Derived.Deep.DeepCutAuto
import Derived.Test.YtcboiapggnmpfaaGreatQf
namespace Go.Proofs.YtcboiapggnmpfaaGreat
open Go.RowKit
set_option linter.unusedSimpArgs false
set_option linter.unusedVariables false

theorem tssC_get : ∀ (l : List Tst) (i k : Nat) (x : Tst), l[i]? = some x → k < 11 → (tssC l)[i * 11 + k]? = (tsC x)[k]? := by
  intro l
  induction l with
  | nil => intro i k x h; simp at h
  | cons y r ih =>
    intro i k x h hk
    have e : tssC (y :: r) = tsC y ++ tssC r := by simp [tssC]
    have hl : (tsC y).length = 11 := rfl
    rw [e]
    cases i with
    | zero =>
      simp at h; subst h
      rw [List.getElem?_append_left (by omega)]
      simp
    | succ i =>
      simp at h
      rw [List.getElem?_append_right (by omega), hl]
      have : (i + 1) * 11 + k - 11 = i * 11 + k := by omega
      rw [this]; exact ih i k x h hk
/-- The cells of a test. -/
structure TstAt (w : World) (g o : Nat) (t : Tst) : Prop where
  c0 : w.cell? ⟨g, o, none⟩ = some (.int .i64 t.left.of)
  c1 : w.cell? ⟨g, o + 1, none⟩ = some (.int .i64 t.left.field)
  c2 : w.cell? ⟨g, o + 2, none⟩ = some (.int .i64 t.left.num)
  c3 : w.cell? ⟨g, o + 3, none⟩ = some (.int .i64 t.rel)
  c4 : w.cell? ⟨g, o + 4, none⟩ = some (.int .i64 t.right.of)
  c5 : w.cell? ⟨g, o + 5, none⟩ = some (.int .i64 t.right.field)
  c6 : w.cell? ⟨g, o + 6, none⟩ = some (.int .i64 t.right.num)
  c7 : w.cell? ⟨g, o + 7, none⟩ = some (.int .i64 t.arith)
  c8 : w.cell? ⟨g, o + 8, none⟩ = some (.int .i64 t.more.of)
  c9 : w.cell? ⟨g, o + 9, none⟩ = some (.int .i64 t.more.field)
  c10 : w.cell? ⟨g, o + 10, none⟩ = some (.int .i64 t.more.num)
theorem tstAt {w : World} {base g c : Nat} {l : List Tst} {i : Nat} {t : Tst} (h : w.ownsRow base 38 11 (.slice (some ⟨g, 0, none⟩) l.length c) l.length (tssC l)) (hi : l[i]? = some t) : TstAt w g (i * 11) t := by
  have key : ∀ k, k < 11 → ∀ v, (tsC t)[k]? = some v → w.cell? ⟨g, i * 11 + k, none⟩ = some v := fun k hk v hv => owns_cell h (i * 11 + k) (by rw [tssC_get l i k t hi hk]; exact hv)
  exact ⟨key 0 (by omega) _ rfl, key 1 (by omega) _ rfl, key 2 (by omega) _ rfl, key 3 (by omega) _ rfl, key 4 (by omega) _ rfl, key 5 (by omega) _ rfl, key 6 (by omega) _ rfl, key 7 (by omega) _ rfl, key 8 (by omega) _ rfl, key 9 (by omega) _ rfl, key 10 (by omega) _ rfl⟩
set_option maxRecDepth 100000 in
set_option maxHeartbeats 2000000 in
theorem right_any {w : World} {G n : Nat} {ev sv : Value} {gi go : Nat} {es : List Ed} {Q : TP} {ps : List Pt} {ss : List (St × Value)} {root : Nat} {win : Int} (h : GQ w G n ev sv gi go es Q ps ss root win) (hst : StOk es ss.length) (hwf : WfP ps ss.length) (hr : root < ps.length) (sb : ByteArray) (hs : sb.size ≤ maxLen) (k : Nat) (hk : k < ss.length) :
    Calls Tryz.prog 99 #[.pointer (some ⟨G, 0, none⟩), .pointer (some ⟨Q.T, 0, none⟩), .string sb, .int .i64 k] w (BoolPost w) := by
  have H : Hid (GQ w G n ev sv gi go es Q ps ss root win) := h
  have HST : Hid (StOk es ss.length) := hst
  have HWF : Hid (WfP ps ss.length) := hwf
  have HS : Hid (sb.size ≤ maxLen) := hs
  have hns := h.tf.r.ns
  have c1 := h.tf.r.c1
  have hT := h.tf.r.ltT
  have ht := h.tf.r.ltt
  obtain ⟨x, hx⟩ : ∃ x, ss[k]? = some x := ⟨ss[k], by simp [hk]⟩
  obtain ⟨d0, d1, d2, d3⟩ := h.tf.r.step k x hx
  have hxo := h.tf.tests x (List.mem_of_getElem? hx)
  have hxl := h.tf.tl x (List.mem_of_getElem? hx)
  obtain ⟨⟨xk, xn, xp, xt⟩, xv⟩ := x
  obtain ⟨tp, tc, hxv⟩ := owns_lenL hxo
  simp only at d0 d1 d2 d3 hxv hxo hxl
  subst hxv
  have HXO : Hid (w.ownsRow 0 38 11 (.slice tp xt.length tc) xt.length (tssC xt)) := hxo
  clear h hst hx hwf hs hxo
  obtain ⟨T, gp, cp, gt, ct⟩ := Q
  simp only at c1 d0 d1 d2 d3 hT ht
  have hn1 : ¬ T = w.heap.size := by omega
  have hn2 : ¬ gt = w.heap.size := by omega
  have HRD : Hid (∀ W, Nw w W → ∀ of field num : Int, Calls Tryz.prog 153 #[.pointer (some ⟨G, 0, none⟩), .pointer (some ⟨T, 0, none⟩), .string sb, .int .i64 k, .agg #[.int .i64 of, .int .i64 field, .int .i64 num]] W (BoolPost W)) := fun W kk of field num => readable_any (H.out.nw kk) HST.out sb HS.out k hk of field num
  go_enter Tryz.func99, Tryz.ntmps99
  go_wp2_with fail
  refine (Has_any sb xk _ HS.out).mono ?_
  rintro e w1 ⟨rfl, hw1⟩
  have hw2 := hw1.symm
  subst hw2
  clear hw1
  generalize hasF (bI sb) xk = hf
  by_cases hf0 : hf < 0
  · go_wp2
    go_ret
    exact ⟨_, rfl, (Kp.refl _ w).alloc _⟩
  · have hf1 : decide (hf < 0) = false := by simp; omega
    go_upto_if 31 with fail
    go_cut [9] (fun p wr => p = .pointer (some ⟨w.heap.size, 0, none⟩) ∧ wr.cell? ⟨w.heap.size, 3, none⟩ = some (.slice tp xt.length tc) ∧ w.heap.size < wr.heap.size ∧ Nw w wr)
    case first =>
      by_cases hx0 : 0 ≤ xn
      · go_wp2_with fail
        refine (named_any (H.out.nw ((Kp.refl _ w).alloc _)) HST.out HWF.out hr k hk).mono ?_
        rintro e w1 ⟨b1, rfl, k1⟩
        obtain ⟨kk, hl1, ⟨kc, kz⟩⟩ := k1.box (fun h => h)
        have K1 : Hid (Nw w w1) := kk
        have m3 : w1.cell? ⟨w.heap.size, 3, none⟩ = some (.slice tp xt.length tc) := by rw [kc]; simp [go_sem]
        clear kk k1 kz kc
        cases b1 with
        | false =>
          go_wp2
          go_ret
          exact ⟨_, rfl, K1.out⟩
        | true =>
          go_wp2
          go_meet
          case rel => exact ⟨rfl, m3, hl1, K1.out⟩
      · have hx1 : decide (0 ≤ xn) = false := by simp; omega
        go_wp2
        go_meet
        case rel => exact ⟨rfl, by simp [go_sem], by simp, (Kp.refl _ w).alloc _⟩
    case rest =>
      obtain ⟨rfl, hc3, hwl, hk3⟩ := hcut
      have K3 : Hid (Nw w wc) := hk3
      clear hk3 c1 d0 d1 d2 d3
      go_wp2
      go_loopg [12] xt.length (fun m v12 wr => ∃ i : Nat, v12 = .int .i64 i ∧ m = xt.length - i ∧ i ≤ xt.length ∧ wr.cell? ⟨w.heap.size, 3, none⟩ = some (.slice tp xt.length tc) ∧ w.heap.size < wr.heap.size ∧ Nw w wr)
      case atStart => exact ⟨0, rfl, rfl, by omega, hc3, hwl, K3.out⟩
      case round =>
        obtain ⟨i, rfl, hm, hi, q3, ql, qk⟩ := hrel
        have K4 : Hid (Nw w wr) := qk
        clear qk hc3 hwl K3
        by_cases hi' : i < xt.length
        · obtain ⟨t, hti⟩ : ∃ t, xt[i]? = some t := ⟨xt[i], by simp [hi']⟩
          obtain ⟨g, c, hsl, _, hgl⟩ := HXO.out.form (by omega)
          simp only [Value.slice.injEq, true_and] at hsl
          obtain ⟨rfl, rfl⟩ := hsl
          have HTA : Hid (∀ W, Nw w W → TstAt W g (i * 11) t) := fun W kk => tstAt (owns_kp HXO.out kk (fun _ _ h => h)) hti
          obtain ⟨⟨l0, l1, l2⟩, rl, ⟨m0, m1, m2⟩, ar, ⟨n0, n1, n2⟩⟩ := t
          obtain ⟨a0, a1, a2, a3, a4, a5, a6, a7, a8, a9, a10⟩ := HTA.out wr K4.out
          simp only at a0 a1 a2 a3 a4 a5 a6 a7 a8 a9 a10
          clear hti
          go_wp2_with fail
          refine (HRD.out wr K4.out l0 l1 l2).mono ?_
          rintro e w5 ⟨b1, rfl, k5⟩
          have K5 : Hid (Nw w w5) := K4.out.trans k5
          have r3 := (k5.cell (p := ⟨w.heap.size, 3, none⟩) ql (fun h => h)).trans q3
          have rl5 : w.heap.size < w5.heap.size := Nat.lt_of_lt_of_le ql k5.size
          clear a0 a1 a2 a3 a4 a5 a6 a7 a8 a9 a10 k5 q3 ql
          obtain ⟨a0, a1, a2, a3, a4, a5, a6, a7, a8, a9, a10⟩ := HTA.out w5 K5.out
          simp only at a0 a1 a2 a3 a4 a5 a6 a7 a8 a9 a10
          go_wp2_with fail
          refine (HRD.out w5 K5.out m0 m1 m2).mono ?_
          rintro e w6 ⟨b2, rfl, k6⟩
          have K6 : Hid (Nw w w6) := K5.out.trans k6
          have s3 := (k6.cell (p := ⟨w.heap.size, 3, none⟩) rl5 (fun h => h)).trans r3
          have rl6 : w.heap.size < w6.heap.size := Nat.lt_of_lt_of_le rl5 k6.size
          clear a0 a1 a2 a3 a4 a5 a6 a7 a8 a9 a10 k6 r3 rl5
          obtain ⟨a0, a1, a2, a3, a4, a5, a6, a7, a8, a9, a10⟩ := HTA.out w6 K6.out
          simp only at a0 a1 a2 a3 a4 a5 a6 a7 a8 a9 a10
          go_wp2_with fail
          refine (HRD.out w6 K6.out n0 n1 n2).mono ?_
          rintro e w7 ⟨b3, rfl, k7⟩
          have K7 : Hid (Nw w w7) := K6.out.trans k7
          have u3 := (k7.cell (p := ⟨w.heap.size, 3, none⟩) rl6 (fun h => h)).trans s3
          have rl7 : w.heap.size < w7.heap.size := Nat.lt_of_lt_of_le rl6 k7.size
          clear a0 a1 a2 a3 a4 a5 a6 a7 a8 a9 a10 k7 s3 rl6
          cases b1 with
          | false =>
            go_wp2
            go_ret
            exact ⟨_, rfl, K7.out⟩
          | true =>
            cases b2 with
            | false =>
              go_wp2
              go_ret
              exact ⟨_, rfl, K7.out⟩
            | true =>
              cases b3 with
              | false =>
                go_wp2
                go_ret
                exact ⟨_, rfl, K7.out⟩
              | true =>
                go_wp2
                go_roundg (xt.length - (i + 1))
                case measure => omega
                case rel => exact ⟨i + 1, by simp, rfl, by omega, u3, rl7, K7.out⟩
        · go_wp2
          go_ret
          exact ⟨_, rfl, K4.out⟩
end Go.Proofs.YtcboiapggnmpfaaGreat

namespace Go.Proofs.YtcboiapggnmpfaaGreat
open Go.RowKit
set_option linter.unusedSimpArgs false
set_option linter.unusedVariables false

/-- Is the name of a step ahead of which i steps stand a new one? -/
def isNew (ss : List (St × Value)) (i : Nat) (n : Int) : Bool := decide (0 ≤ n) && (ss.take i).all (fun y => y.1.name != n)
def slotsTo (ss : List (St × Value)) : Nat → List Int
  | 0 => []
  | i + 1 => match ss[i]? with
    | none => slotsTo ss i
    | some x => if isNew ss i x.1.name = true then slotsTo ss i ++ [x.1.name] else slotsTo ss i
theorem slotsTo_len (ss : List (St × Value)) : ∀ i, (slotsTo ss i).length ≤ i := by
  intro i
  induction i with
  | zero => simp [slotsTo]
  | succ i ih =>
    simp only [slotsTo]
    split
    · omega
    · split
      · simp; omega
      · omega
def SlotsPost (w : World) (l : List Int) (e : Ending) (w' : World) : Prop := ∃ v, e = .returned v ∧ w'.ownsRow w.heap.size 3 1 v l.length (l.map (Value.int .i64)) ∧ Nw w w'
theorem all_snoc {α : Type} {l : List α} {p : α → Bool} {i : Nat} {x : α} (h : l[i]? = some x) : (l.take (i + 1)).all p = ((l.take i).all p && p x) := by
  rw [List.take_add_one, h]; simp
set_option maxRecDepth 100000 in
set_option maxHeartbeats 2000000 in
theorem slots_any (Q : TP) (ps : List Pt) (ss : List (St × Value)) (root win : Int) (w : World) (h : TreeR w Q ps ss root win) :
    Calls Tryz.prog 111 #[.pointer (some ⟨Q.T, 0, none⟩)] w (SlotsPost w (slotsTo ss ss.length)) := by
  have H : Hid (TreeR w Q ps ss root win) := h
  have hns := h.ns
  clear h
  obtain ⟨i1, hi1, hy0, hy1, hy2⟩ := info_parts Tryz.info3
  obtain ⟨T, gp, cp, gt, ct⟩ := Q
  go_enter Tryz.func111, Tryz.ntmps111
  go_wp2
  go_loopg [3, 4] ss.length (fun m v3 v4 wr => ∃ i : Nat, v4 = .int .i64 i ∧ m = ss.length - i ∧ i ≤ ss.length ∧ wr.ownsRow w.heap.size 3 1 v3 (slotsTo ss i).length ((slotsTo ss i).map (Value.int .i64)) ∧ Nw w wr)
  case atStart => exact ⟨0, rfl, rfl, by omega, World.ownsRow_nil _ _ _ _, Kp.refl _ _⟩
  case round =>
    obtain ⟨i, rfl, hm, hi, ho, hk⟩ := hrel
    have O1 : Hid (wr.ownsRow w.heap.size 3 1 u3 (slotsTo ss i).length ((slotsTo ss i).map (Value.int .i64))) := ho
    have K1 : Hid (Nw w wr) := hk
    have d1 := (H.out.nw hk).c1
    have HSP : Hid (∀ (i : Nat) (x : St × Value), ss[i]? = some x → wr.cell? ⟨gt, i * 4 + 1, none⟩ = some (.int .i64 x.1.name)) := fun i x hx => ((H.out.nw hk).step i x hx).2.1
    have hsz := hk.size
    simp only at d1
    clear ho hk
    by_cases hi' : i < ss.length
    · obtain ⟨x, hx⟩ : ∃ x, ss[i]? = some x := ⟨ss[i], by simp [hi']⟩
      have dx := HSP.out i x hx
      have hsl : slotsTo ss (i + 1) = if isNew ss i x.1.name = true then slotsTo ss i ++ [x.1.name] else slotsTo ss i := by simp only [slotsTo, hx]
      generalize x.1.name = xn at *
      have HSL : Hid (slotsTo ss (i + 1) = if isNew ss i xn = true then slotsTo ss i ++ [xn] else slotsTo ss i) := hsl
      have hlen := slotsTo_len ss i
      clear hx hsl
      obtain ⟨f0, hf0⟩ : ∃ f0 : Bool, f0 = decide (0 ≤ xn) := ⟨_, rfl⟩
      go_wp2
      go_loopg [6, 7] i (fun m v6 v7 wr' => ∃ j : Nat, v6 = .bool (decide (0 ≤ xn) && (ss.take j).all (fun y => y.1.name != xn)) ∧ v7 = .int .i64 j ∧ m = i - j ∧ j ≤ i ∧ wr' = wr)
      case atStart => exact ⟨0, by simp, rfl, rfl, by omega, rfl⟩
      case round =>
        obtain ⟨j, rfl, rfl, hm2, hj, hwr⟩ := hrel
        have hwr2 := hwr.symm
        subst hwr2
        clear hwr
        generalize hfb : (decide (0 ≤ xn) && (ss.take j).all (fun y => y.1.name != xn)) = fb
        have HFB : Hid ((decide (0 ≤ xn) && (ss.take j).all (fun y => y.1.name != xn)) = fb) := hfb
        clear hfb
        by_cases hj' : j < i
        · obtain ⟨y, hy⟩ : ∃ y, ss[j]? = some y := ⟨ss[j]'(by omega), List.getElem?_eq_getElem (by omega)⟩
          have dy := HSP.out j y hy
          have hnx := all_snoc (p := fun y : St × Value => y.1.name != xn) hy
          have HNX : Hid ((decide (0 ≤ xn) && (ss.take (j + 1)).all (fun y => y.1.name != xn)) = (fb && (y.1.name != xn))) := by show _ = _; rw [hnx, ← Bool.and_assoc, HFB.out]
          generalize y.1.name = yn at *
          have hjs : (j : Int) < ss.length := by omega
          clear hy hnx HFB
          cases fb with
          | false =>
            go_wp2
            go_roundg (i - (j + 1))
            case measure => omega
            case rel => exact ⟨j + 1, by rw [HNX.out]; rfl, by simp, rfl, by omega, rfl⟩
          | true =>
            go_wp2
            go_roundg (i - (j + 1))
            case measure => omega
            case rel => exact ⟨j + 1, by rw [HNX.out]; simp, by simp, rfl, by omega, rfl⟩
        · have ej : j = i := by omega
          have HNW : Hid (isNew ss i xn = fb) := by show _ = _; rw [← HFB.out, ej]; rfl
          clear HFB
          cases fb with
          | false =>
            have HS2 : Hid (slotsTo ss (i + 1) = slotsTo ss i) := by show _ = _; rw [HSL.out, HNW.out]; rfl
            clear ej
            go_wp2
            go_roundg (ss.length - (i + 1))
            case measure => omega
            case rel => exact ⟨i + 1, by simp, rfl, by omega, by rw [HS2.out]; exact O1.out, K1.out⟩
          | true =>
            have HS2 : Hid (slotsTo ss (i + 1) = slotsTo ss i ++ [xn]) := by show _ = _; rw [HSL.out, HNW.out]; rfl
            clear ej
            go_wp2_with (at_builtin; refine wpList_append_lies _ rfl _ _ 73 rfl w.heap.size 3 i1 (.int .i64 0) 1 8 Tryz.underlying73 hi1 hy0 hy1 hy2 rfl (by decide) _ _ _ rfl (O1.out.alloc _) ⟨wr.heap.size, 0, none⟩ 1 1 [.int .i64 xn] rfl rfl ?c1 ?c2 (by decide) ?c3 ?c4 ?c5 _ rfl ?_)
            case c1 => exact news_one _ rfl _ _
            case c2 => intro u hu; simp at hu; subst hu; rfl
            case c3 => unfold maxLen; omega
            case c4 => omega
            case c5 => simp; omega
            intro g cap w1 hown1 hgrow hat hlt
            have hg' : ∀ b, u3.ownBlock = some b → w.heap.size ≤ b := fun b hb => (O1.out.lt b hb).1
            have K2 : Hid (Nw w w1) := (K1.out.alloc _).grown hgrow (fun b hb => Or.inl (hg' b hb))
            have O2 : Hid (w1.ownsRow w.heap.size 3 1 (.slice (some ⟨g, 0, none⟩) ((slotsTo ss i).length + 1) cap) (slotsTo ss (i + 1)).length ((slotsTo ss (i + 1)).map (Value.int .i64))) := by
              show w1.ownsRow _ _ _ _ _ _
              rw [HS2.out, List.length_append, List.map_append]
              exact hown1
            clear hown1 hgrow hat hg' O1
            go_wp2
            go_roundg (ss.length - (i + 1))
            case measure => omega
            case rel => exact ⟨i + 1, by simp, rfl, by omega, O2.out, K2.out⟩
    · have ei : i = ss.length := by omega
      have HEI : Hid (i = ss.length) := ei
      clear ei
      go_wp2
      go_ret
      exact ⟨_, rfl, by rw [← HEI.out]; exact O1.out, K1.out⟩
/-- Not too large. -/
def Small' (ps : List Pt) (ss : List (St × Value)) (root : Nat) : Prop := (∀ x ∈ ss, x.1.tests.length ≤ 4) ∧ lg ps (root + 1) root ≤ 24 ∧ (slotsTo ss ss.length).length ≤ 4
def LargePost (w : World) (ps : List Pt) (ss : List (St × Value)) (root : Nat) (e : Ending) (w' : World) : Prop := ∃ b, e = .returned (.bool b) ∧ Nw w w' ∧ (b = false → Small' ps ss root)
set_option maxRecDepth 100000 in
set_option maxHeartbeats 2000000 in
theorem large_any (Q : TP) (ps : List Pt) (ss : List (St × Value)) (root : Nat) (win : Int) (w : World) (h : TreeF w Q ps ss root win) (hwf : WfP ps ss.length) (hb : ∀ f i, 0 ≤ lg ps f i ∧ lg ps f i ≤ 100000000000000) (hr : root < ps.length) :
    Calls Tryz.prog 100 #[.pointer (some ⟨Q.T, 0, none⟩)] w (LargePost w ps ss root) := by
  have H : Hid (TreeF w Q ps ss root win) := h
  have hns := h.r.ns
  have c1 := h.r.c1
  have c2 := h.r.c2
  have HL := longR_any Q ps ss root win ss.length hwf hb (root + 1) root (by omega) hr w h.r
  have HSL := fun W (k : Nw w W) => slots_any Q ps ss root win W (h.r.nw k)
  have HSL : Hid (∀ W, Nw w W → Calls Tryz.prog 111 #[.pointer (some ⟨Q.T, 0, none⟩)] W (SlotsPost W (slotsTo ss ss.length))) := HSL
  have HL : Hid (Calls Tryz.prog 154 #[.pointer (some ⟨Q.T, 0, none⟩), .int .i64 root] w (IntPost w (lg ps (root + 1) root))) := HL
  have HBD := hb (root + 1) root
  obtain ⟨v, hv⟩ : ∃ v, v = lg ps (root + 1) root := ⟨_, rfl⟩
  have HV : Hid (v = lg ps (root + 1) root) := hv
  rw [← hv] at HBD HL
  clear h hwf hb hv
  obtain ⟨T, gp, cp, gt, ct⟩ := Q
  simp only at c1 c2
  go_enter Tryz.func100, Tryz.ntmps100
  go_wp2
  go_loopg [3] ss.length (fun m v3 wr => ∃ i : Nat, v3 = .int .i64 i ∧ m = ss.length - i ∧ i ≤ ss.length ∧ (∀ x ∈ ss.take i, x.1.tests.length ≤ 4) ∧ wr = w)
  case atStart => exact ⟨0, rfl, rfl, by omega, by simp, rfl⟩
  case round =>
    obtain ⟨i, rfl, hm, hi, ha, hwr⟩ := hrel
    have hwr2 := hwr.symm
    subst hwr2
    have HA : Hid (∀ x ∈ ss.take i, x.1.tests.length ≤ 4) := ha
    clear hwr ha
    by_cases hi' : i < ss.length
    · obtain ⟨x, hx⟩ : ∃ x, ss[i]? = some x := ⟨ss[i], by simp [hi']⟩
      have dx := (H.out.r.step i x hx).2.2.2
      have hxo := H.out.tests x (List.mem_of_getElem? hx)
      obtain ⟨tp, tc, hxv⟩ := owns_lenL hxo
      have hxl := H.out.tl x (List.mem_of_getElem? hx)
      rw [hxv] at dx
      simp only at dx
      have HX : Hid (ss[i]? = some x) := hx
      clear hx hxo hxv
      by_cases h4 : x.1.tests.length ≤ 4
      · have HT : Hid (∀ y ∈ ss.take (i + 1), y.1.tests.length ≤ 4) := by
          intro y hy
          rw [List.take_add_one, HX.out] at hy
          simp only [Option.toList_some, List.mem_append, List.mem_cons, List.not_mem_nil, or_false] at hy
          rcases hy with hy | hy
          · exact HA.out y hy
          · subst hy; exact h4
        clear HX
        generalize x.1.tests.length = tl at *
        go_wp2
        go_roundg (ss.length - (i + 1))
        case measure => omega
        case rel => exact ⟨i + 1, by simp, rfl, by omega, HT.out, rfl⟩
      · clear HX
        generalize x.1.tests.length = tl at *
        go_wp2
        go_ret
        exact ⟨true, rfl, Kp.refl _ _, by simp⟩
    · have HT : Hid (∀ y ∈ ss, y.1.tests.length ≤ 4) := by have := HA.out; rw [List.take_of_length_le (by omega)] at this; exact this
      clear HA
      go_wp2_with fail
      refine HL.out.mono ?_
      rintro e w1 ⟨rfl, k1⟩
      have K1 : Hid (Nw w w1) := k1
      clear k1 c1 c2
      go_wp2_with fail
      refine (HSL.out w1 K1.out).mono ?_
      rintro e w2 ⟨sv, rfl, ho, k2⟩
      have K2 : Hid (Nw w w2) := K1.out.trans k2
      obtain ⟨tp, tc, hxv⟩ := owns_lenL ho
      have hsl := slotsTo_len ss ss.length
      subst hxv
      generalize hlL : (slotsTo ss ss.length).length = lL at *
      have HLL : Hid ((slotsTo ss ss.length).length = lL) := hlL
      clear ho k2 hlL
      by_cases h24 : v ≤ 24
      · by_cases hl4 : lL ≤ 4
        · go_wp2
          go_ret
          refine ⟨_, rfl, K2.out, fun _ => ⟨HT.out, by rw [← HV.out]; exact h24, by rw [HLL.out]; exact hl4⟩⟩
        · have hl4' : decide ((lL : Int) ≤ 4) = false := by simp; omega
          go_wp2
          go_ret
          refine ⟨true, ?_, K2.out, by simp⟩
          simp; omega
      · have h24' : decide (v ≤ 24) = false := by simp; omega
        go_wp2
        go_ret
        exact ⟨true, rfl, K2.out, by simp⟩
end Go.Proofs.YtcboiapggnmpfaaGreat
