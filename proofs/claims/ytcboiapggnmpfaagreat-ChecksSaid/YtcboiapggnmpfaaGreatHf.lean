/- Walks: spotterref: Compile. -/
import Derived.Test.YtcboiapggnmpfaaGreatXa
import Derived.Test.YtcboiapggnmpfaaGreatHe
import Derived.Test.YtcboiapggnmpfaaGreatQz
namespace Go.Proofs.YtcboiapggnmpfaaGreat
open Go.RowKit
set_option linter.unusedSimpArgs false
set_option linter.unusedVariables false

/-- A list of ints that is gathered from the world w0 on. -/
structure IG (w0 wr : World) (v : Value) (l : List Int) : Prop where
  own : wr.ownsRow w0.heap.size 3 1 v l.length (l.map (Value.int .i64))
  nw : Nw w0 wr
theorem IG.next {w0 wr w' : World} {v : Value} {l : List Int} (h : IG w0 wr v l) (k : Nw wr w') : IG w0 w' v l := ⟨owns_kp h.own k (fun _ _ h => h), h.nw.trans k⟩
theorem IG.more {w0 wr w' : World} {v v' : Value} {l : List Int} {x : Int} {ob : Obj} (h : IG w0 wr v l) (hg : (wr.alloc ob).grownBy w' v.ownBlock) (ho : w'.ownsRow w0.heap.size 3 1 v' (l.length + 1) (l.map (Value.int .i64) ++ [.int .i64 x])) : IG w0 w' v' (l ++ [x]) := by
  refine ⟨?_, (h.nw.alloc _).grown hg (fun b hb => Or.inl (h.own.lt b hb).1)⟩
  have e1 : (l ++ [x]).length = l.length + 1 := by simp
  have e2 : (l ++ [x]).map (Value.int .i64) = l.map (Value.int .i64) ++ [.int .i64 x] := by simp
  rw [e1, e2]; exact ho
theorem mem_snoc {l : List Int} {x : Int} {p : Int → Prop} (h : ∀ y ∈ l, p y) (hx : p x) : ∀ y ∈ l ++ [x], p y := by
  intro y hy
  rcases List.mem_append.1 hy with hy | hy
  · exact h y hy
  · simp at hy; subst hy; exact hx
structure LG (w6 wr : World) (v : Value) (l : List In) : Prop where
  own : wr.ownsRow w6.heap.size 40 14 v l.length (codeC l)
  nw : Nw w6 wr
theorem LG.next {w6 wr w' : World} {v : Value} {l : List In} (h : LG w6 wr v l) (k : Nw wr w') : LG w6 w' v l := ⟨owns_kp h.own k (fun _ _ h => h), h.nw.trans k⟩
theorem LG.grow {w6 wr w' : World} {v v' : Value} {l l' : List In} (h : LG w6 wr v l) (hg : wr.grownBy w' v.ownBlock) (ho : w'.ownsRow w6.heap.size 40 14 v' l'.length (codeC l')) : LG w6 w' v' l' := ⟨ho, h.nw.grown hg (fun b hb => Or.inl (h.own.lt b hb).1)⟩
theorem codeC_app (a b : List In) : codeC (a ++ b) = codeC a ++ codeC b := by simp [codeC]
theorem codeC_len (l : List In) : (codeC l).length = l.length * 14 := by
  induction l with
  | nil => rfl
  | cons x r ih =>
    have : codeC (x :: r) = insC x ++ codeC r := by simp [codeC]
    rw [this, List.length_append, ih, List.length_cons]
    have : (insC x).length = 14 := rfl
    omega
theorem LG.snoc {w6 wr w' : World} {v v' : Value} {l : List In} {x : In} (h : LG w6 wr v l) (hg : wr.grownBy w' v.ownBlock) (ho : w'.ownsRow w6.heap.size 40 14 v' (l.length + 1) (codeC l ++ insC x)) : LG w6 w' v' (l ++ [x]) := by
  refine h.grow hg ?_
  have e : (l ++ [x]).length = l.length + 1 := by simp
  rw [e, codeC_snoc]; exact ho
theorem news_own {w : World} {base g n c : Nat} {size : Nat} {e : TypeId} {xs : List Value} (h : w.ownsRow base e size (.slice (some ⟨g, 0, none⟩) n c) n xs) {j : Nat} {u : Value} (hu : xs[j]? = some u) : w.cell? ((⟨g, 0, none⟩ : Addr).add j) = some u := by
  have hadd : (⟨g, 0, none⟩ : Addr).add j = ⟨g, j, none⟩ := by unfold Addr.add; split <;> simp_all
  rw [hadd]
  exact owns_cell h j hu
theorem rows_ne {w : World} {b1 b2 n1 n2 s1 s2 : Nat} {e1 e2 : TypeId} {v1 v2 : Value} {x1 x2 : List Value} (h1 : w.ownsRow b1 e1 s1 v1 n1 x1) (h2 : w.ownsRow b2 e2 s2 v2 n2 x2) (hne : ¬ e1 = e2) : ∀ g, v1.ownBlock = some g → ¬ v2.ownBlock = some g := by
  intro g hg1 e
  rcases h1.2 with ⟨rfl, _⟩ | ⟨g', cap, cur, rfl, hb, h3, _⟩
  · simp [Value.ownBlock] at hg1
  · rcases h2.2 with ⟨rfl, _⟩ | ⟨g2, cap2, cur2, rfl, _, hg2, _⟩
    · simp [Value.ownBlock] at e
    · simp only [Value.ownBlock, Option.some.injEq] at e hg1
      subst e
      subst hg1
      rw [h3] at hg2
      simp only [Option.some.injEq, Obj.cells.injEq] at hg2
      exact hne hg2.2.1
def CompPost (w : World) (e : Ending) (w' : World) : Prop := Nw w w' ∧ ∃ v f l, e = .returned (.tuple #[v, .int .i64 f]) ∧ (f = 0 → w'.ownsRow w.heap.size 40 14 v l.length (codeC l) ∧ l.length ≤ 10000)
/-- What Compile reads once the graph is made. -/
structure CW (w3 W : World) (G K : Nat) (sp : Option Addr) (sc : Nat) (Q : TP) (ct : Nat) (st : List Int) : Prop where
  nw : Nw w3 W
  g2 : W.cell? ⟨G, 2, none⟩ = some (.slice sp K sc)
  g3 : W.cell? ⟨G, 3, none⟩ = some (.int .i64 0)
set_option maxRecDepth 100000 in
set_option maxHeartbeats 8000000 in
theorem compile_ref (hStep : ∀ (P : CuP) (B : Nat) (L : List Tok) (root win : Int), StepOk P B L root win) (sc s : ByteArray) (w : World) (hsc : sc.size ≤ maxLen) (hs : s.size ≤ maxLen) :
    Calls Tryz.prog 62 #[.string sc, .string s] w (CompPost w) := by
  have HCK := check_ref hStep sc s hsc hs w
  have HST : Hid (∀ (P : CuP) (B : Nat) (L : List Tok) (root win : Int), StepOk P B L root win) := hStep
  clear hStep hsc hs
  go_enter Tryz.func62, Tryz.ntmps62
  go_wp2_with fail
  refine HCK.mono ?_
  rintro e w1 ⟨f, p, rfl, k1, hf⟩
  have K1 : Hid (Nw w w1) := k1
  have HF : Hid (f = 0 → ParsedOk s) := hf
  clear k1 hf HCK
  by_cases hf0 : f = 0
  · obtain ⟨h120, t, o, x, hp, hsm⟩ := HF.out hf0
    have g0 : (f != 0) = false := by simp [hf0]
    have HP : Hid (pTopOf (pAtom 8) (toks 0 (bI s)) = (some (t, o), x)) := hp
    have HSM : Hid (SmallT (altP (atomP 8) (atomS 8) t.1 t.2 0 0) (altS (atomS 8) t.1 t.2)) := hsm
    clear hf0 hp hsm HF
    go_wp2_with fail
    refine (read_any HST.out s h120 t o x HP.out w1).mono ?_
    rintro e w2 ⟨Q, ss, rfl, hQT, htf, hss, k2⟩
    obtain ⟨hseg, hpl, hpp, hsl⟩ := parts_known h120 HP.out
    have hsm := HSM.out.back hss
    generalize altP (atomP 8) (atomS 8) t.1 t.2 0 0 = ps at *
    have hsl2 : ss.length = (altS (atomS 8) t.1 t.2).length := by have := congrArg List.length hss; simpa using this
    rw [← hsl2] at hseg hsl
    have hwf := hseg.wf
    have hbg := bg_le hwf (ps.length - 1 + 1) (ps.length - 1) (by omega) (by omega)
    have hlp := lp_lg hwf (ps.length - 1 + 1) (ps.length - 1)
    obtain ⟨hs4, h24, hnm⟩ := hsm
    have hlpos := lg_pos hwf (ps.length - 1 + 1) (ps.length - 1) (by omega) (by omega)
    have hM24 : lp ps (ps.length - 1 + 1) (ps.length - 1) ≤ 24 := by omega
    have hN : bg ps (ps.length - 1 + 1) (ps.length - 1) ≤ 28800 := by
      have h1 : lg ps (ps.length - 1 + 1) (ps.length - 1) * (5 * ((ps.length - 1 : Nat) : Int) + 5) ≤ 24 * (5 * ((ps.length - 1 : Nat) : Int) + 5) := Int.mul_le_mul_of_nonneg_right h24 (by omega)
      omega
    have HOUT : Hid (Calls Tryz.prog 91 #[.pointer (some ⟨Q.T, 0, none⟩)] w2 (OutPost w2 Q ps ss ((ps.length - 1 : Nat) : Int) (o.getD (-1)) 100000 ss.length (lp ps (ps.length - 1 + 1) (ps.length - 1)))) :=
      out_any Q ps ss (ps.length - 1) (o.getD (-1)) w2 100000 ss.length (lp ps (ps.length - 1 + 1) (ps.length - 1)) (bg ps (ps.length - 1 + 1) (ps.length - 1)) htf (by omega) (by omega) (fun B ha => spread_any Q ps ss _ (o.getD (-1)) w2.heap.size B 0 1 100000 ss.length hwf ha (Nat.le_refl _) (ps.length - 1 + 1) (ps.length - 1) (by omega) (by omega))
    have K2 : Hid (Nw w w2) := K1.out.trans k2
    have HS4 : Hid (∀ x ∈ ss, x.1.tests.length ≤ 4) := hs4
    have HNM : Hid ((slotsTo ss ss.length).length ≤ 4) := hnm
    have hM24' : Hid (lp ps (ps.length - 1 + 1) (ps.length - 1) ≤ 24) := hM24
    generalize lp ps (ps.length - 1 + 1) (ps.length - 1) = M at *
    generalize o.getD (-1) = win at *
    clear htf hss k2 hseg hwf hbg hlp hs4 h24 hnm hlpos hN hQT HSM HP K1 hsl2
    go_wp2_with fail
    refine HOUT.out.mono ?_
    rintro e w3 ⟨n, ev, sv, es, st, rfl, gq, _, hst, hsti, hstl, k3⟩
    obtain ⟨sp, scc, hsv⟩ := owns_lenL hst
    subst hsv
    have G3 : Hid (GQ w3 w2.heap.size n ev (.slice sp st.length scc) 0 1 es Q ps ss ((ps.length - 1 : Nat) : Int) win) := gq
    have HSR : Hid (∀ W, Nw w3 W → IntsR W (.slice sp st.length scc) st) := fun W k => (IntsR.of hst).nw k
    have HSI : Hid (∀ y ∈ st, 0 ≤ y ∧ y < ss.length) := hsti
    have hK24 : st.length ≤ 24 := by have := hM24'.out; omega
    have K3 : Hid (Nw w w3) := K2.out.trans k3
    have HBL : Hid (∀ W, Nw w3 W → ∀ (j : Nat) (x : St × Value), ss[j]? = some x → ∀ tp tc, x.2 = .slice tp x.1.tests.length tc → Calls Tryz.prog 93 #[.pointer (some ⟨Q.T, 0, none⟩), .agg #[.int .i64 x.1.kind, .int .i64 x.1.name, .int .i64 x.1.pos, .slice tp x.1.tests.length tc]] W (BlockPost W 10)) := by
      intro W kW j x hx tp tc hxv
      have tf := (G3.out.nw kW).tf
      have ho := tf.tests x (List.mem_of_getElem? hx)
      rw [hxv] at ho
      have h4 := HS4.out x (List.mem_of_getElem? hx)
      have h5 := HNM.out
      refine (block_any Q ps ss _ win W tf x.1.kind x.1.name x.1.pos tp tc x.1.tests ho (by omega) (by omega)).mono ?_
      rintro e w' ⟨v, l, h1, h2, h3, h6, h7⟩
      exact ⟨v, l, h1, h2, by omega, h6, h7⟩
    have HBE : Hid (∀ W, Nw w3 W → ∀ a : Nat, a < n → Calls Tryz.prog 92 #[.pointer (some ⟨w2.heap.size, 0, none⟩), .pointer (some ⟨Q.T, 0, none⟩), .int .i64 a] W (BehindPost W st.length)) := fun W kW a ha => behindG_any (G3.out.nw kW) (by omega) a ha
    have HED : Hid (∀ W, Nw w3 W → ∀ j : Int, Calls Tryz.prog 94 #[.pointer (some ⟨w2.heap.size, 0, none⟩), .int .i64 j] W fun e w' => e = .returned (edV (edOf j es)) ∧ Nw W w') := fun W kW j => edgeOf_any w2.heap.size ev es j W (G3.out.nw kW).ge
    have HEE : Hid (∀ j : Int, ∃ (a b : Nat) (c : Int), edOf j es = ⟨a, b, c⟩ ∧ a < n ∧ b < n) := fun j => edOf_ok gq.ok (by have := gq.hgi; omega) j
    have hn0 : 0 < n := by have := gq.hgi; omega
    have g3 := gq.gr.c3
    have hns := gq.tf.r.ns
    clear gq hst hsti hstl k3 HOUT K2 hM24' hM24 HS4 HNM
    generalize w2.heap.size = G at *
    obtain ⟨T, gp, cp, gt, ct⟩ := Q
    go_wp2_with fail
    refine (HBE.out w3 (Kp.refl _ _) 0 hn0).mono ?_
    rintro e w4 ⟨av, al, rfl, hao, hal, hai, k4⟩
    have K4 : Hid (Nw w3 w4) := k4
    obtain ⟨ap, ac, hav⟩ := owns_lenL hao
    subst hav
    have HAR : Hid (∀ W, Nw w4 W → IntsR W (.slice ap al.length ac) al) := fun W k => (IntsR.of hao).nw k
    have HAI : Hid (∀ x ∈ al, 0 ≤ x ∧ x ≤ st.length) := hai
    have HG2 : Hid (∀ W, Nw w3 W → W.cell? ⟨G, 2, none⟩ = some (.slice sp st.length scc)) := fun W k => (G3.out.nw k).gr.c2
    obtain ⟨i3, hi3, hy0, hy1, hy2⟩ := info_parts Tryz.info3
    obtain ⟨i0, hi0, hz0, hz1, hz2⟩ := info_parts Tryz.info40
    have IG0 : Hid (IG w4 w4 (.slice none 0 0) []) := ⟨World.ownsRow_nil _ _ _ _, Kp.refl _ _⟩
    clear hao hai k4 g3
    go_wp2
    go_loopg [10, 12] al.length (fun m v10 v12 wr => ∃ (i : Nat) (fl : List Int), v12 = .int .i64 i ∧ m = al.length - i ∧ i ≤ al.length ∧ IG w4 wr v10 fl ∧ fl.length ≤ i ∧ (∀ x ∈ fl, 0 ≤ x ∧ x < st.length))
    case atStart => exact ⟨0, [], rfl, rfl, by omega, IG0.out, by simp, by intro x hx; cases hx⟩
    case round =>
      obtain ⟨i, fl, rfl, hm, hi, hG, hfl, hfi⟩ := hrel
      have I1 : Hid (IG w4 wr u10 fl) := hG
      have HFI : Hid (∀ x ∈ fl, 0 ≤ x ∧ x < st.length) := hfi
      have c2 := HG2.out wr (K4.out.trans hG.nw)
      have hszr := hG.nw.size
      clear hG hfi IG0
      by_cases hi' : i < al.length
      · obtain ⟨x, hx⟩ : ∃ x, al[i]? = some x := ⟨al[i], by simp [hi']⟩
        obtain ⟨g, c', e', hg, d0⟩ := (HAR.out wr I1.out.nw).cell i x hx
        simp only [Value.slice.injEq, true_and] at e'
        obtain ⟨rfl, rfl⟩ := e'
        obtain ⟨x0, x1⟩ := HAI.out x (List.mem_of_getElem? hx)
        have hii : (i : Int) < al.length := by omega
        clear hx
        by_cases hxl : x < st.length
        · have I2 : Hid (∀ q, IG w4 (wr.drewN q) u10 fl) := fun q => I1.out.next ((Kp.refl _ _).drewN q)
          go_wp2
          go_quiet (fail)
          go_wp2_with (at_builtin; refine wpList_append_lies _ rfl _ _ 73 rfl w4.heap.size 3 i3 (.int .i64 0) 1 8 Tryz.underlying73 hi3 hy0 hy1 hy2 rfl (by decide) _ _ _ rfl ((I2.out _).own.alloc _) ⟨_, 0, none⟩ 1 1 [.int .i64 x] rfl rfl (news_one _ rfl _ _) (by intro u hu; simp at hu; subst hu; rfl) (by decide) (by unfold maxLen; omega) (by omega) (by simp; omega) _ rfl ?_)
          intro g3 cap3 w5 hown3 hgrow3 hat3 hlt3
          have I3 : Hid (IG w4 w5 (.slice (some ⟨g3, 0, none⟩) (fl.length + 1) cap3) (fl ++ [x])) := (I2.out _).more hgrow3 hown3
          have HFI2 : Hid (∀ y ∈ fl ++ [x], 0 ≤ y ∧ y < st.length) := mem_snoc HFI.out ⟨x0, hxl⟩
          clear hown3 hgrow3 hat3 I1 I2
          go_wp2
          go_roundg (al.length - (i + 1))
          case measure => omega
          case rel => exact ⟨i + 1, fl ++ [x], by simp, rfl, by omega, I3.out, by simp; omega, HFI2.out⟩
        · have hxl' : decide (x < (st.length : Int)) = false := by simp; omega
          have I2 : Hid (∀ q, IG w4 (wr.drewN q) u10 fl) := fun q => I1.out.next ((Kp.refl _ _).drewN q)
          go_wp2
          go_quiet (fail)
          go_wp2
          go_roundg (al.length - (i + 1))
          case measure => omega
          case rel => exact ⟨i + 1, fl, by simp, rfl, by omega, I2.out _, by omega, HFI.out⟩
      · obtain ⟨fp, fc, hfv⟩ := owns_lenL I1.out.own
        have HFR : Hid (∀ W, Nw wr W → IntsR W u10 fl) := fun W k => (IntsR.of I1.out.own).nw k
        have K5 : Hid (Nw w3 wr) := K4.out.trans I1.out.nw
        subst hfv
        generalize hw5 : wr = w5 at *
        clear hw5 I1 c2 HAR HAI hszr K4
        have hfl2 : fl.length ≤ 25 := by omega
        have IB0 : Hid (IG w5 w5 (.slice none 0 0) []) := ⟨World.ownsRow_nil _ _ _ _, Kp.refl _ _⟩
        go_wp2
        go_loopg [13, 14, 15] st.length (fun m v13 v14 v15 wr => ∃ (k : Nat) (bl : List Int) (a : Int), v14 = .int .i64 a ∧ v15 = .int .i64 k ∧ m = st.length - k ∧ k ≤ st.length ∧ IG w5 wr v13 bl ∧ bl.length = k ∧ 0 ≤ a ∧ a ≤ 25 + 40 * k)
        case atStart => exact ⟨0, [], _, rfl, rfl, rfl, by omega, IB0.out, rfl, by omega, by omega⟩
        case round =>
          obtain ⟨k, bl, a, rfl, rfl, hm2, hk, hG2, hbl, ha0, ha1⟩ := hrel
          have I4 : Hid (IG w5 wr u13 bl) := hG2
          have HBLN : Hid (bl.length = k) := hbl
          have hble : bl.length ≤ 24 := by omega
          have c2 := HG2.out wr (K5.out.trans hG2.nw)
          have hszr := hG2.nw.size
          clear hG2 IB0 hbl
          by_cases hk' : k < st.length
          · obtain ⟨y, hy⟩ : ∃ y, st[k]? = some y := ⟨st[k], by simp [hk']⟩
            obtain ⟨gst, c', e', hgst, _⟩ := (HSR.out w3 (Kp.refl _ _)).cell k y hy
            simp only [Value.slice.injEq, true_and] at e'
            obtain ⟨rfl, rfl⟩ := e'
            obtain ⟨y0, y1⟩ := HSI.out y (List.mem_of_getElem? hy)
            obtain ⟨ny, rfl⟩ : ∃ ny : Nat, y = ny := ⟨y.toNat, by omega⟩
            have hny : ny < ss.length := by omega
            obtain ⟨x, hx⟩ : ∃ x, ss[ny]? = some x := ⟨ss[ny], List.getElem?_eq_getElem hny⟩
            obtain ⟨tp, tc, hxv⟩ := owns_lenL (G3.out.tf.tests x (List.mem_of_getElem? hx))
            obtain ⟨⟨xk, xn, xp, xt⟩, xv⟩ := x
            simp only at hxv
            subst hxv
            have HSW : Hid (∀ W, Nw w3 W → W.cell? ⟨T, 1, none⟩ = some (.slice (some ⟨gt, 0, none⟩) ss.length ct) ∧ W.cell? ⟨G, 2, none⟩ = some (.slice (some ⟨gst, 0, none⟩) st.length scc) ∧ W.cell? ⟨gst, k, none⟩ = some (.int .i64 (ny : Int)) ∧ W.cell? ⟨gt, ny * 4, none⟩ = some (.int .i64 xk) ∧ W.cell? ⟨gt, ny * 4 + 1, none⟩ = some (.int .i64 xn) ∧ W.cell? ⟨gt, ny * 4 + 2, none⟩ = some (.int .i64 (xp : Int)) ∧ W.cell? ⟨gt, ny * 4 + 3, none⟩ = some (.slice tp xt.length tc)) := by
              intro W kW
              have r := (G3.out.nw kW).tf.r
              obtain ⟨q0, q1, q2, q3⟩ := r.step ny _ hx
              obtain ⟨g9, c9, e9, _, d9⟩ := (HSR.out W kW).cell k _ hy
              simp only [Value.slice.injEq, true_and] at e9
              obtain ⟨e9, _⟩ := e9
              simp only [Option.some.injEq, Addr.mk.injEq, and_true] at e9
              exact ⟨r.c1, HG2.out W kW, by rw [e9]; exact d9, q0, q1, q2, q3⟩
            have HBX : Hid (∀ W, Nw w3 W → Calls Tryz.prog 93 #[.pointer (some ⟨T, 0, none⟩), .agg #[.int .i64 xk, .int .i64 xn, .int .i64 (xp : Int), .slice tp xt.length tc]] W (BlockPost W 10)) := fun W kW => HBL.out W kW ny _ hx tp tc rfl
            have hkk : (k : Int) < st.length := by omega
            have hnn : (ny : Int) < ss.length := by omega
            clear hy hx
            go_wp2_with (at_builtin; refine wpList_append_lies _ rfl _ _ 73 rfl w5.heap.size 3 i3 (.int .i64 0) 1 8 Tryz.underlying73 hi3 hy0 hy1 hy2 rfl (by decide) _ _ _ rfl (I4.out.own.alloc _) ⟨_, 0, none⟩ 1 1 [.int .i64 a] rfl rfl (news_one _ rfl _ _) (by intro u hu; simp at hu; subst hu; rfl) (by decide) (by unfold maxLen; omega) (by omega) (by simp; omega) _ rfl ?_)
            intro g3 cap3 w6 hown3 hgrow3 hat3 hlt3
            have I6 : Hid (IG w5 w6 (.slice (some ⟨g3, 0, none⟩) (bl.length + 1) cap3) (bl ++ [a])) := I4.out.more hgrow3 hown3
            have K6 : Hid (Nw w3 w6) := K5.out.trans I6.out.nw
            clear hown3 hgrow3 hat3 I4 c2 hszr
            go_wp2
            go_region_held3 (fun w' => w'.cell? ⟨T, 1, none⟩ = some (.slice (some ⟨gt, 0, none⟩) ss.length ct) ∧ w'.cell? ⟨G, 2, none⟩ = some (.slice (some ⟨gst, 0, none⟩) st.length scc) ∧ w'.cell? ⟨gst, k, none⟩ = some (.int .i64 (ny : Int)) ∧ w'.cell? ⟨gt, ny * 4, none⟩ = some (.int .i64 xk) ∧ w'.cell? ⟨gt, ny * 4 + 1, none⟩ = some (.int .i64 xn) ∧ w'.cell? ⟨gt, ny * 4 + 2, none⟩ = some (.int .i64 (xp : Int)) ∧ w'.cell? ⟨gt, ny * 4 + 3, none⟩ = some (.slice tp xt.length tc)) (first | exact HSW.out _ K6.out | exact HSW.out _ (K6.out.drewN _) | exact HSW.out _ ((K6.out.drewN _).trans k7))
              ((go_at_call 93; refine (HBX.out _ (K6.out.drewN _)).mono ?_; rintro e7 w7 ⟨bv, lb, rfl, hbo, hbl7, hbp, k7⟩))
            all_goals
              have I7 : Hid (IG w5 w7 (.slice (some ⟨g3, 0, none⟩) (bl.length + 1) cap3) (bl ++ [a])) := I6.out.next (((Kp.refl _ _).drewN _).trans k7)
              have K7 : Hid (Nw w3 w7) := (K6.out.drewN _).trans k7
              obtain ⟨bp, bc, hbv⟩ := owns_lenL hbo
              subst hbv
              obtain ⟨ea, eb, ec, he, hea, heb⟩ := HEE.out (k : Int)
              have HE : Hid (edOf (k : Int) es = ⟨ea, eb, ec⟩) := he
              clear hbo k7 he I6 K6
              go_wp2_with fail
              refine (HED.out w7 K7.out k).mono ?_
              rintro e8 w8 ⟨rfl, k8⟩
              rw [HE.out]
              unfold edV
              have I8 : Hid (∀ ob, IG w5 (w8.alloc ob) (.slice (some ⟨g3, 0, none⟩) (bl.length + 1) cap3) (bl ++ [a])) := fun ob => (I7.out.next k8).next ((Kp.refl _ _).alloc ob)
              have K8 : Hid (∀ ob, Nw w3 (w8.alloc ob)) := fun ob => (K7.out.trans k8).alloc ob
              clear k8 I7 K7
              go_wp2_with fail
              refine (HBE.out _ (K8.out _) eb heb).mono ?_
              rintro e9 w9 ⟨tv, tl, rfl, hto, htl, hti, k9⟩
              obtain ⟨tp2, tc2, htv⟩ := owns_lenL hto
              subst htv
              have I9 : Hid (IG w5 w9 (.slice (some ⟨g3, 0, none⟩) (bl.length + 1) cap3) (bl ++ [a])) := (I8.out _).next k9
              clear hto hti k9 I8 K8
              go_wp2
              go_roundg (st.length - (k + 1))
              case measure => omega
              case rel => exact ⟨k + 1, bl ++ [a], a + lb.length + tl.length, rfl, by simp, rfl, by omega, I9.out, by rw [List.length_append, HBLN.out]; rfl, by omega, by push_cast; omega⟩
          · go_wp2_with (at_builtin; refine wpList_append_lies _ rfl _ _ 73 rfl w5.heap.size 3 i3 (.int .i64 0) 1 8 Tryz.underlying73 hi3 hy0 hy1 hy2 rfl (by decide) _ _ _ rfl (I4.out.own.alloc _) ⟨_, 0, none⟩ 1 1 [.int .i64 a] rfl rfl (news_one _ rfl _ _) (by intro u hu; simp at hu; subst hu; rfl) (by decide) (by unfold maxLen; omega) (by omega) (by simp; omega) _ rfl ?_)
            intro g3 cap3 w6 hown3 hgrow3 hat3 hlt3
            have I6 : Hid (IG w5 w6 (.slice (some ⟨g3, 0, none⟩) (bl.length + 1) cap3) (bl ++ [a])) := I4.out.more hgrow3 hown3
            have K6 : Hid (Nw w3 w6) := K5.out.trans I6.out.nw
            have hbl9 : bl.length = st.length := by have := HBLN.out; omega
            have HBR : Hid (∀ W, Nw w6 W → IntsR W (.slice (some ⟨g3, 0, none⟩) (bl.length + 1) cap3) (bl ++ [a])) := fun W k => (IntsR.of I6.out.own).nw k
            have HFR6 : Hid (∀ W, Nw w6 W → IntsR W (.slice fp fl.length fc) fl) := fun W k => HFR.out W (I6.out.nw.trans k)
            have HBO : Hid (∀ W, Nw w6 W → W.ownsRow w5.heap.size 3 1 (.slice (some ⟨g3, 0, none⟩) (bl.length + 1) cap3) (bl ++ [a]).length ((bl ++ [a]).map (Value.int .i64))) := fun W k => (I6.out.next k).own
            have HBL9 : Hid ((bl ++ [a]).length = st.length + 1) := by show _ = _; rw [List.length_append, hbl9]; rfl
            have HSZ6 : Hid (w.heap.size ≤ w6.heap.size) := (K3.out.trans K6.out).size
            have HC0 : Hid (Calls Tryz.prog 95 #[.slice none 0 0, .slice fp fl.length fc, .slice (some ⟨g3, 0, none⟩) (bl.length + 1) cap3] w6 (ChainPost w6.heap.size (.slice none 0 0) [] fl.length w6)) := by
              have h9 := HBL9.out
              refine chained_any w6.heap.size (.slice none 0 0) _ _ [] fl (bl ++ [a]) w6 (World.ownsRow_nil _ _ _ _) (Nat.le_refl _) (HFR6.out w6 (Kp.refl _ _)) (HBR.out w6 (Kp.refl _ _)) (by intro g _ h; simp [Value.ownBlock] at h) (by intro g _ h; simp [Value.ownBlock] at h) (by simp; omega) (by omega) (by omega) ?_
              intro x hx
              have := HFI.out x hx
              omega
            clear hown3 hgrow3 hat3 I4 c2 hszr I6 HFR hbl9
            go_wp2_with fail
            refine HC0.out.mono ?_
            rintro e7 w7 ⟨lv, l0, rfl, hlo, hll, hlk, _⟩
            have L7 : Hid (LG w6 w7 lv l0) := ⟨hlo, hlk.mono (by intro b _ h; simp [Value.ownBlock] at h)⟩
            have hl0 : l0.length ≤ 25 := by simp at hll; omega
            clear hlo hll hlk HC0
            go_wp2
            go_loopg [19, 20] st.length (fun m v19 v20 wr => ∃ (k : Nat) (l : List In), v20 = .int .i64 k ∧ m = st.length - k ∧ k ≤ st.length ∧ LG w6 wr v19 l ∧ l.length ≤ 25 + 40 * k)
            case atStart => exact ⟨0, l0, rfl, rfl, by omega, L7.out, by omega⟩
            case round =>
              obtain ⟨k, l, rfl, hm3, hk3, hL, hll⟩ := hrel
              have L8 : Hid (LG w6 wr u19 l) := hL
              have K9 : Hid (Nw w3 wr) := K6.out.trans hL.nw
              have c2 := HG2.out wr (K6.out.trans hL.nw)
              obtain ⟨lp9, lc9, hlv9⟩ := owns_lenL hL.own
              subst hlv9
              clear hL L7
              by_cases hk' : k < st.length
              · obtain ⟨y, hy⟩ : ∃ y, st[k]? = some y := ⟨st[k], by simp [hk']⟩
                obtain ⟨gst, c', e', hgst, _⟩ := (HSR.out w3 (Kp.refl _ _)).cell k y hy
                simp only [Value.slice.injEq, true_and] at e'
                obtain ⟨rfl, rfl⟩ := e'
                obtain ⟨y0, y1⟩ := HSI.out y (List.mem_of_getElem? hy)
                obtain ⟨ny, rfl⟩ : ∃ ny : Nat, y = ny := ⟨y.toNat, by omega⟩
                have hny : ny < ss.length := by omega
                obtain ⟨x, hx⟩ : ∃ x, ss[ny]? = some x := ⟨ss[ny], List.getElem?_eq_getElem hny⟩
                obtain ⟨tp, tc, hxv⟩ := owns_lenL (G3.out.tf.tests x (List.mem_of_getElem? hx))
                obtain ⟨⟨xk, xn, xp, xt⟩, xv⟩ := x
                simp only at hxv
                subst hxv
                have HSW : Hid (∀ W, Nw w3 W → W.cell? ⟨T, 1, none⟩ = some (.slice (some ⟨gt, 0, none⟩) ss.length ct) ∧ W.cell? ⟨G, 2, none⟩ = some (.slice (some ⟨gst, 0, none⟩) st.length scc) ∧ W.cell? ⟨gst, k, none⟩ = some (.int .i64 (ny : Int)) ∧ W.cell? ⟨gt, ny * 4, none⟩ = some (.int .i64 xk) ∧ W.cell? ⟨gt, ny * 4 + 1, none⟩ = some (.int .i64 xn) ∧ W.cell? ⟨gt, ny * 4 + 2, none⟩ = some (.int .i64 (xp : Int)) ∧ W.cell? ⟨gt, ny * 4 + 3, none⟩ = some (.slice tp xt.length tc)) := by
                  intro W kW
                  have r := (G3.out.nw kW).tf.r
                  obtain ⟨q0, q1, q2, q3⟩ := r.step ny _ hx
                  obtain ⟨g9, c9, e9, _, d9⟩ := (HSR.out W kW).cell k _ hy
                  simp only [Value.slice.injEq, true_and] at e9
                  obtain ⟨e9, _⟩ := e9
                  simp only [Option.some.injEq, Addr.mk.injEq, and_true] at e9
                  exact ⟨r.c1, HG2.out W kW, by rw [e9]; exact d9, q0, q1, q2, q3⟩
                have HBX : Hid (∀ W, Nw w3 W → Calls Tryz.prog 93 #[.pointer (some ⟨T, 0, none⟩), .agg #[.int .i64 xk, .int .i64 xn, .int .i64 (xp : Int), .slice tp xt.length tc]] W (BlockPost W 10)) := fun W kW => HBL.out W kW ny _ hx tp tc rfl
                have hkk : (k : Int) < st.length := by omega
                have hnn : (ny : Int) < ss.length := by omega
                clear hy hx
                go_wp2
                go_region_held3 (fun w' => w'.cell? ⟨T, 1, none⟩ = some (.slice (some ⟨gt, 0, none⟩) ss.length ct) ∧ w'.cell? ⟨G, 2, none⟩ = some (.slice (some ⟨gst, 0, none⟩) st.length scc) ∧ w'.cell? ⟨gst, k, none⟩ = some (.int .i64 (ny : Int)) ∧ w'.cell? ⟨gt, ny * 4, none⟩ = some (.int .i64 xk) ∧ w'.cell? ⟨gt, ny * 4 + 1, none⟩ = some (.int .i64 xn) ∧ w'.cell? ⟨gt, ny * 4 + 2, none⟩ = some (.int .i64 (xp : Int)) ∧ w'.cell? ⟨gt, ny * 4 + 3, none⟩ = some (.slice tp xt.length tc)) (first | exact HSW.out _ K9.out | exact HSW.out _ (K9.out.drewN _) | exact HSW.out _ ((K9.out.drewN _).trans k10))
                  ((go_at_call 93; refine (HBX.out _ (K9.out.drewN _)).mono ?_; rintro e10 w10 ⟨bv, lb, rfl, hbo, hbl10, hbp, k10⟩))
                all_goals
                  have L10 : Hid (LG w6 w10 (.slice lp9 l.length lc9) l) := L8.out.next (((Kp.refl _ _).drewN _).trans k10)
                  have K10 : Hid (Nw w3 w10) := (K9.out.drewN _).trans k10
                  obtain ⟨gb, cb, hbv, _, hgb⟩ := hbo.form hbp
                  subst hbv
                  have HNEW : Hid (∀ j u, (codeC lb)[j]? = some u → w10.cell? ((⟨gb, 0, none⟩ : Addr).add j) = some u) := fun j u hu => news_own hbo hu
                  have hs10 := L10.out.nw.size
                  obtain ⟨ea, eb, ec, he, hea, heb⟩ := HEE.out (k : Int)
                  have HE : Hid (edOf (k : Int) es = ⟨ea, eb, ec⟩) := he
                  clear hbo k10 he L8 K9
                  go_wp2_with (at_builtin; refine wpList_append_lies _ rfl _ _ 28 rfl w6.heap.size 40 i0 (.agg #[.int .i64 0, .int .i64 0, .int .i64 0, .int .i64 0, .int .i64 0, .int .i64 0, .int .i64 0, .int .i64 0, .int .i64 0, .int .i64 0, .int .i64 0, .int .i64 0, .int .i64 0, .int .i64 0]) 14 112 Tryz.underlying28 hi0 hz0 hz1 hz2 rfl (by decide) _ _ _ rfl L10.out.own ⟨gb, 0, none⟩ lb.length cb (codeC lb) rfl (codeC_len lb) HNEW.out (codeC_one lb) hbp (by unfold maxLen; omega) (by omega) hs10 _ rfl ?_)
                  intro g11 cap11 w11 hown11 hgrow11 hat11 hlt11
                  have L11 : Hid (LG w6 w11 (.slice (some ⟨g11, 0, none⟩) (l.length + lb.length) cap11) (l ++ lb)) := L10.out.grow hgrow11 (by rw [List.length_append, codeC_app]; exact hown11)
                  have K11 : Hid (Nw w3 w11) := K6.out.trans L11.out.nw
                  clear hown11 hgrow11 hat11 HNEW L10 K10
                  go_wp2_with fail
                  refine (HED.out w11 K11.out k).mono ?_
                  rintro e12 w12 ⟨rfl, k12⟩
                  rw [HE.out]
                  unfold edV
                  have L12 : Hid (∀ ob, LG w6 (w12.alloc ob) (.slice (some ⟨g11, 0, none⟩) (l.length + lb.length) cap11) (l ++ lb)) := fun ob => (L11.out.next k12).next ((Kp.refl _ _).alloc ob)
                  have K12 : Hid (∀ ob, Nw w3 (w12.alloc ob)) := fun ob => (K11.out.trans k12).alloc ob
                  clear k12 L11 K11
                  go_wp2_with fail
                  refine (HBE.out _ (K12.out _) eb heb).mono ?_
                  rintro e13 w13 ⟨tv, tl, rfl, hto, htl, hti, k13⟩
                  have L13 : Hid (LG w6 w13 (.slice (some ⟨g11, 0, none⟩) (l.length + lb.length) cap11) (l ++ lb)) := (L12.out _).next k13
                  have HC13 : Hid (Calls Tryz.prog 95 #[.slice (some ⟨g11, 0, none⟩) (l.length + lb.length) cap11, tv, .slice (some ⟨g3, 0, none⟩) (bl.length + 1) cap3] w13 (ChainPost w6.heap.size (.slice (some ⟨g11, 0, none⟩) (l.length + lb.length) cap11) (l ++ lb) tl.length w13)) := by
                    have h9 := HBL9.out
                    have hs13 := L13.out.nw.size
                    refine chained_any w6.heap.size _ tv _ (l ++ lb) tl (bl ++ [a]) w13 L13.out.own hs13 (IntsR.of hto) (HBR.out w13 L13.out.nw) (rows_ne hto L13.out.own (by decide)) (rows_ne (HBO.out w13 L13.out.nw) L13.out.own (by decide)) (by rw [List.length_append]; omega) (by omega) (by omega) ?_
                    intro x hx
                    have := hti x hx
                    omega
                  clear hto hti k13 L12 K12
                  go_wp2_with fail
                  refine HC13.out.mono ?_
                  rintro e14 w14 ⟨v14, l14, rfl, hlo14, hll14, hlk14, _⟩
                  have L14 : Hid (LG w6 w14 v14 l14) := ⟨hlo14, Kp.trans' L13.out.nw hlk14 (fun b hb h => by have := (L13.out.own.lt b h).1; omega)⟩
                  have hll15 : l14.length ≤ 25 + 40 * (k + 1) := by rw [List.length_append] at hll14; omega
                  clear hlo14 hll14 hlk14 HC13 L13
                  go_wp2
                  go_roundg (st.length - (k + 1))
                  case measure => omega
                  case rel => exact ⟨k + 1, l14, by simp, rfl, by omega, L14.out, hll15⟩
              · have hs8 := L8.out.nw.size
                go_wp2_with (at_builtin; refine wpList_append_lies _ rfl _ _ 28 rfl w6.heap.size 40 i0 (.agg #[.int .i64 0, .int .i64 0, .int .i64 0, .int .i64 0, .int .i64 0, .int .i64 0, .int .i64 0, .int .i64 0, .int .i64 0, .int .i64 0, .int .i64 0, .int .i64 0, .int .i64 0, .int .i64 0]) 14 112 Tryz.underlying28 hi0 hz0 hz1 hz2 rfl (by decide) _ _ _ rfl (L8.out.own.alloc _) ⟨wr.heap.size, 0, none⟩ 1 1 (insC ⟨6, 0, 0, tst0⟩) rfl rfl (news_one _ rfl _ _) (oneCellsI _) (by decide) (by unfold maxLen; omega) (by omega) (by simp; omega) _ rfl ?_)
                intro g11 cap11 w11 hown11 hgrow11 hat11 hlt11
                have L11 : Hid (LG w6 w11 (.slice (some ⟨g11, 0, none⟩) (l.length + 1) cap11) (l ++ [⟨6, 0, 0, tst0⟩])) := (L8.out.next ((Kp.refl _ _).alloc _)).snoc hgrow11 hown11
                have KE11 : Hid (Nw w w11) := (K3.out.trans K6.out).trans L11.out.nw
                clear hown11 hgrow11 hat11 L8 K9 c2
                go_wp2
                go_ret2
                refine ⟨KE11.out, _, 0, l ++ [⟨6, 0, 0, tst0⟩], rfl, fun _ => ⟨owns_baseP L11.out.own HSZ6.out, by simp; omega⟩⟩
  · have g0 : (f != 0) = true := by simp [hf0]
    have HF0 : Hid (¬ f = 0) := hf0
    clear hf0
    go_wp2
    go_ret2
    exact ⟨K1.out, .slice none 0 0, f, [], rfl, fun h => absurd h HF0.out⟩
end Go.Proofs.YtcboiapggnmpfaaGreat
