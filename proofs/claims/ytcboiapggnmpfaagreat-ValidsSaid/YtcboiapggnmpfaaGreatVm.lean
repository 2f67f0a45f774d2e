/- Walks: program: does a way come back. -/
import Derived.Test.YtcboiapggnmpfaaGreatVl
namespace Go.Proofs.YtcboiapggnmpfaaGreat
open Go.RowKit
set_option linter.unusedSimpArgs false
set_option linter.unusedVariables false

theorem owns_pop {w : World} {base g cap n : Nat} {e : TypeId} {xs : List Value} {x : Value} (h : w.ownsRow base e 1 (.slice (some ⟨g, 0, none⟩) (n + 1) cap) (n + 1) (xs ++ [x])) : w.ownsRow base e 1 (.slice (some ⟨g, 0, none⟩) n cap) n xs := by
  obtain ⟨h1, h2⟩ := h
  have hx : xs.length = n := by simpa using h1
  refine ⟨by omega, ?_⟩
  rcases h2 with ⟨h2, _⟩ | ⟨g', cap', cur, h2, hb, h3, h4, h5, h6, h7⟩
  · simp at h2
  · simp at h2
    obtain ⟨rfl, rfl⟩ := h2
    refine Or.inr ⟨g, cap, cur, rfl, hb, h3, by omega, h5, h6, ?_⟩
    have : (cur.toList.take ((n + 1) * 1)).take n = xs := by rw [h7, List.take_append_of_le_length (by omega), List.take_of_length_le (by omega)]
    rw [List.take_take] at this
    have e1 : min n ((n + 1) * 1) = n * 1 := by omega
    rw [e1] at this; exact this
theorem owns_cap {w : World} {base g cap n size : Nat} {e : TypeId} {xs : List Value} (h : w.ownsRow base e size (.slice (some ⟨g, 0, none⟩) n cap) n xs) : n ≤ cap := by
  rcases h.2 with ⟨h2, _⟩ | ⟨g', cap', cur, h2, hb, h3, h4, h5, h6, h7⟩
  · simp at h2
  · simp at h2
    obtain ⟨rfl, rfl⟩ := h2
    exact h4
theorem snoc_of {q : List Nat} (h : ¬ q = []) : ∃ q' x, q = q' ++ [x] := ⟨q.dropLast, q.getLast h, (List.dropLast_concat_getLast h).symm⟩
set_option maxRecDepth 100000 in
set_option maxHeartbeats 1000000 in
theorem comesBack_any (g cap i : Nat) (l : List In) (w : World) (hc : Code' w g l) (hA : AllIns l) (hi : i < l.length) (hn : l.length ≤ 1000) :
    Calls Tryz.prog 173 #[.slice (some ⟨g, 0, none⟩) l.length cap, .int .i64 i] w fun e w' =>
      ∃ b, e = .returned (.bool b) ∧ (b = true ↔ Rch l false i i) ∧ Nw w w' := by
  have hl := hc.lt
  obtain ⟨i0, hi0, hz0, hz1, hz2⟩ := info_parts Tryz.info4
  go_enter Tryz.func173, Tryz.ntmps173
  go_wp2_with (first | (at_make; refine wpList_make_full _ rfl _ _ 187 rfl w.heap.size 4 i0 (.bool false) 1 Tryz.underlying187 hi0 hz0 hz1 _ _ _ _ l.length rfl rfl rfl rfl ?b1 ?b2 ?b3 ?_) | fail)
  case b1 => rw [hz2]; omega
  case b2 => unfold maxLen; omega
  case b3 => exact Nat.le_refl _
  intro w1 hown1 hgrow1
  have R1 : Hid (Row w1 w.heap.size 4 ((List.replicate l.length false).map Value.bool)) := by
    have := Row.of_full hown1
    rw [made_bools] at this
    exact this
  have K1 : Hid (Nw w w1) := (Kp.refl _ w).grown hgrow1 (by intro k hk; cases hk)
  have hs1 := R1.out.lt
  have C1 : Hid (Code' w1 g l) := hc.kp K1.out (fun h => h)
  clear hown1 hgrow1
  go_wp2
  go_loopg [] (1 + l.length) (fun m wr => ∃ (ov : Value) (bs : List Bool) (q : List Nat) (done : Nat → Prop), m = q.length + bs.count false ∧ WS wr (w1.heap.size + 1) g cap w.heap.size l ov bs q ∧ Srch l false i bs done q ∧ Nw w wr)
  case atStart =>
    refine ⟨.slice (some ⟨w1.heap.size, 0, none⟩) 1 1, List.replicate l.length false, [i], fun _ => False, by simp, ?_, Srch.start l false i hi, (K1.out.alloc _).alloc _⟩
    refine ⟨?_, (C1.out.kp ((Kp.refl (fun _ => False) w1).alloc _) (fun h => h)).kp ((Kp.refl (fun _ => False) _).alloc _) (fun h => h), (R1.out.alloc _).alloc _, (owns_new w1 (Nat.le_of_lt hs1) _ _ 1 1 rfl (by unfold maxLen; omega)).alloc _, by simp, by simp; omega, hl, by omega, by simp [Value.ownBlock]⟩
    constructor <;> simp [go_sem, World.cell?_alloc_at, World.frozen?_alloc_at]
  case round =>
    obtain ⟨ov, bs, q, done, hm, hW, hS, hK⟩ := hrel
    have H : Hid (WS wr (w1.heap.size + 1) g cap w.heap.size l ov bs q) := hW
    have HS : Hid (Srch l false i bs done q) := hS
    have HK : Hid (Nw w wr) := hK
    have HM : Hid (gk = q.length + bs.count false) := hm
    obtain ⟨b, hb⟩ : ∃ b, bs[i]? = some b := ⟨bs[i]'(by rw [hW.len]; exact hi), by simp [hW.len, hi]⟩
    have cb : wr.cell? ⟨w.heap.size, i, none⟩ = some (.bool b) := by rw [hW.row.cell]; simp [hb]
    have HB : Hid (bs[i]? = some b) := hb
    obtain ⟨⟨c0, c1, c2, fz⟩, hcode, hrow, hown, hlen, hcnt, hg, hR, hne⟩ := hW
    have hRl : w1.heap.size + 1 < wr.heap.size := H.out.wk.lt
    clear hS hK hm hb hrow R1 K1 C1
    by_cases hq : q = []
    · subst hq
      have hv := hown.2
      have hlen0 : ∃ p cc, ov = .slice p 0 cc := by
        rcases hv with ⟨e, _⟩ | ⟨g', cap', cur, e, _⟩
        · exact ⟨none, 0, e⟩
        · exact ⟨_, _, e⟩
      obtain ⟨p, cc, rfl⟩ := hlen0
      go_wp2
      go_ret
      refine ⟨b, rfl, ?_, HK.out⟩
      rw [← HS.out.over i, HB.out]
      simp
    · obtain ⟨q', x, rfl⟩ := snoc_of hq
      obtain ⟨go, cpo, rfl, hgo1, hgo2⟩ := hown.form (by simp)
      cases b with
      | true =>
        go_wp2
        go_ret
        exact ⟨true, rfl, ⟨fun _ => HS.out.sound i HB.out, fun _ => rfl⟩, HK.out⟩
      | false =>
        have hxl : x < l.length := HS.out.lt x (by simp)
        obtain ⟨v, hv⟩ : ∃ v, l[x]? = some v := ⟨l[x], by simp [hxl]⟩
        have cat : wr.cell? ⟨go, q'.length, none⟩ = some (.int .i64 x) := owns_cell hown q'.length (by simp [intsV])
        have cop : wr.cell? ⟨g, x * 14, none⟩ = some (.int .i64 v.op) := (hcode.ins x v hv).cells.1
        have hRgo : ¬ go = w1.heap.size + 1 := by simpa [Value.ownBlock] using hne
        have hRg : ¬ g = w1.heap.size + 1 := by omega
        have hRg' : ¬ w1.heap.size + 1 = g := by omega
        have HV : Hid (l[x]? = some v) := hv
        have hql : q'.length ≤ 1001 := by simp at hcnt; omega
        have hpo : ¬ cpo < q'.length := by have := owns_cap hown; simp at this; omega
        simp only [List.length_append, List.length_cons, List.length_nil] at c2
        clear hown hcode hv hne
        have kp : Kp (fun b => b = w1.heap.size + 1) wr (wr.setCell ⟨w1.heap.size + 1, 2, none⟩ (.slice (some ⟨go, 0, none⟩) q'.length cpo)) := (Kp.refl (fun b => b = w1.heap.size + 1) wr).setCell (p := ⟨w1.heap.size + 1, 2, none⟩) (Or.inr rfl) _
        have HW2 : Hid (WS (wr.setCell ⟨w1.heap.size + 1, 2, none⟩ (.slice (some ⟨go, 0, none⟩) q'.length cpo)) (w1.heap.size + 1) g cap w.heap.size l (.slice (some ⟨go, 0, none⟩) q'.length cpo) bs q') := by
          refine ⟨H.out.wk.set2 _, H.out.code.kp kp hRg, H.out.row.kp kp (by omega), ?_, hlen, by simp at hcnt; omega, hg, hR, by simpa [Value.ownBlock] using hRgo⟩
          have ho := H.out.own
          have e2 : intsV (q' ++ [x]) = intsV q' ++ [.int .i64 (x : Int)] := by simp [intsV]
          rw [e2] at ho
          simp only [List.length_append, List.length_cons, List.length_nil] at ho
          exact owns_kp (owns_pop ho) kp (by intro b hb e; simp [Value.ownBlock] at hb; omega)
        have HL : Hid (Leav l false i bs done q' x []) := HS.out.leave (by simp) (by intro y hy; simp at hy; exact hy.symm) (by intro y hy; simp [hy])
        have HK2 : Hid (Nw w (wr.setCell ⟨w1.heap.size + 1, 2, none⟩ (.slice (some ⟨go, 0, none⟩) q'.length cpo))) := HK.out.setCell (p := ⟨w1.heap.size + 1, 2, none⟩) (Or.inl (by show w.heap.size ≤ w1.heap.size + 1; omega)) _
        have HM2 : Hid (gk = q'.length + 1 + bs.count false) := by
          show _ = _
          rw [HM.out]; simp
        clear kp HM
        by_cases h0 : v.op = 0
        · rw [h0] at cop
          go_wp2
          go_roundg (q'.length + bs.count false)
          case measure => rw [HM2.out]; omega
          case rel => exact ⟨_, bs, q', _, rfl, HW2.out, HL.out.left (fun j hj => absurd hj (edge_take HV.out h0 j)), HK2.out⟩
        · have h0' : (v.op != 0) = true := by simp [h0]
          go_wp2_with fail
          refine (leave_any (w1.heap.size + 1) g cap w.heap.size l _ bs q' x v _ HW2.out HV.out hA hn).mono ?_
          rintro e w2 ⟨rfl, ov2, hw2, k2⟩
          have hcnt2 : Hid ((mkQ (mkB bs (nx1 v x)) (mkQ bs q' (nx1 v x)) (nx2 v x)).length + (mkB (mkB bs (nx1 v x)) (nx2 v x)).count false = q'.length + bs.count false) := by
            show _ = _
            rw [mk_cnt, mk_cnt]
          have HS2 : Hid (Srch l false i _ (fun y => done y ∨ y = x) _) := HL.out.both hA HV.out (fun e => absurd e h0)
          generalize mkB (mkB bs (nx1 v x)) (nx2 v x) = bs2 at *
          generalize mkQ (mkB bs (nx1 v x)) (mkQ bs q' (nx1 v x)) (nx2 v x) = q2 at *
          have H2 : Hid (WS w2 (w1.heap.size + 1) g cap w.heap.size l ov2 bs2 q2) := hw2
          have HK3 : Hid (Nw w w2) := HK2.out.trans' k2 (by intro b hb e; omega)
          clear hw2 k2 cop cat c0 c1 c2 fz
          go_wp2
          go_roundg (q2.length + bs2.count false)
          case measure => have := hcnt2.out; rw [HM2.out]; omega
          case rel => exact ⟨ov2, bs2, q2, _, rfl, H2.out, HS2.out, HK3.out⟩
end Go.Proofs.YtcboiapggnmpfaaGreat
