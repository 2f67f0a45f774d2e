/- Walks: program: leaving an instruction. -/
import Derived.Test.YtcboiapggnmpfaaGreatVk
import Derived.Test.YtcboiapggnmpfaaGreatQa
namespace Go.Proofs.YtcboiapggnmpfaaGreat
open Go.RowKit
set_option linter.unusedSimpArgs false
set_option linter.unusedVariables false

theorem eqb_no {a b : Int} (h : ¬ a = b) : (a == b) = false := by simp [h]
/-- Behind a step to one more, if there is one. -/
def ReachZ (w : World) (R g cap gb : Nat) (l : List In) (bs : List Bool) (q : List Nat) (e : Ending) (w' : World) : Prop :=
  e = .returned (.tuple #[]) ∧ ∃ ov', WS w' R g cap gb l ov' bs q ∧ Kp (fun b => gb ≤ b) w w'
set_option maxRecDepth 100000 in
set_option maxHeartbeats 1000000 in
theorem reachZ_any (R g cap gb : Nat) (z : Int) (l : List In) (ov : Value) (bs : List Bool) (q : List Nat) (w : World) (h : WS w R g cap gb l ov bs q) (hz : z = -1 ∨ ∃ j : Nat, z = j ∧ j < l.length) (hn : l.length ≤ 1000) :
    Calls Tryz.prog 182 #[.pointer (some ⟨R, 0, none⟩), .int .i64 z] w (ReachZ w R g cap gb l (mkB bs z) (mkQ bs q z)) := by
  rcases hz with rfl | ⟨j, rfl, hj⟩
  · have H : Hid (WS w R g cap gb l ov bs q) := h
    obtain ⟨⟨c0, c1, c2, fz⟩, hcode, hrow, hown, hlen, hcnt, hg, hR, hne⟩ := h
    rw [mkB_neg, mkQ_neg]
    go_enter Tryz.func182, Tryz.ntmps182
    go_wp2
    go_end0
    exact ⟨rfl, ov, H.out, Kp.refl _ _⟩
  · refine (reach_any R g cap gb j l ov bs q w h hj hn).mono ?_
    rintro e w' ⟨rfl, h1⟩
    refine ⟨rfl, ?_⟩
    rcases h1 with ⟨hb, rfl⟩ | ⟨hb, ov', hw, hk⟩
    · refine ⟨ov, ?_, Kp.refl _ _⟩
      have e1 : mkB bs (j : Int) = bs := by simp [mkB, hb]
      have e2 : mkQ bs q (j : Int) = q := by simp [mkQ, hb]
      rw [e1, e2]; exact h
    · refine ⟨ov', ?_, hk⟩
      have e1 : mkB bs (j : Int) = bs.set j true := by simp [mkB, hb]
      have e2 : mkQ bs q (j : Int) = q ++ [j] := by simp [mkQ, hb]
      rw [e1, e2]; exact hw
set_option maxRecDepth 100000 in
set_option maxHeartbeats 1000000 in
theorem nextOf_any (x : In) (i : Nat) (w : World) (hi : i ≤ 1000) :
    Calls Tryz.prog 222 #[insV x, .int .i64 i] w fun e w' => e = .returned (.tuple #[.int .i64 (nx1 x i), .int .i64 (nx2 x i)]) ∧ Nw w w' := by
  obtain ⟨o, a, b, ⟨⟨t1, t2, t3⟩, t4, ⟨t5, t6, t7⟩, t8, ⟨t9, t10, t11⟩⟩⟩ := x
  simp only [insV, nx1, nx2]
  by_cases h4 : o = 4
  · subst h4
    go_enter Tryz.func222, Tryz.ntmps222
    go_wp2
    go_quiet (fail)
    go_wp2
    go_ret2
    exact ⟨rfl, ((Kp.refl _ _).alloc _).drewN _⟩
  by_cases h5 : o = 5
  · subst h5
    go_enter Tryz.func222, Tryz.ntmps222
    go_wp2
    go_quiet (fail)
    go_wp2
    go_ret2
    exact ⟨rfl, ((Kp.refl _ _).alloc _).drewN _⟩
  by_cases h6 : o = 6
  · subst h6
    go_enter Tryz.func222, Tryz.ntmps222
    go_wp2
    go_ret2
    exact ⟨rfl, (Kp.refl _ _).alloc _⟩
  · simp only [if_neg h4, if_neg h5, if_neg h6]
    have n4 := eqb_no h4
    have n5 := eqb_no h5
    have n6 := eqb_no h6
    clear h4 h5 h6
    go_enter Tryz.func222, Tryz.ntmps222
    go_wp2
    go_ret2
    exact ⟨rfl, (Kp.refl _ _).alloc _⟩
theorem nx_ok {l : List In} (hA : AllIns l) {i : Nat} {x : In} (hx : l[i]? = some x) : (nx1 x i = -1 ∨ ∃ j : Nat, nx1 x i = j ∧ j < l.length) ∧ (nx2 x i = -1 ∨ ∃ j : Nat, nx2 x i = j ∧ j < l.length) := by
  rcases nx_spec hA hx with ⟨h6, e1, e2, e3⟩ | ⟨h6, j1, j2, e1, e2, l1, l2, e3⟩
  · exact ⟨Or.inl e1, Or.inl e2⟩
  · exact ⟨Or.inr ⟨j1, e1, l1⟩, Or.inr ⟨j2, e2, l2⟩⟩
theorem WS.nw {w w' : World} {R g cap gb : Nat} {l : List In} {ov : Value} {bs : List Bool} {q : List Nat} (h : WS w R g cap gb l ov bs q) (k : Nw w w') : WS w' R g cap gb l ov bs q :=
  ⟨h.wk.sm (k.sm h.wk.lt (fun h => h)), h.code.kp k (fun h => h), h.row.kp k (fun h => h), owns_kp h.own k (fun _ _ h => h), h.len, h.cnt, h.hg, h.hR, h.ne⟩
set_option maxRecDepth 100000 in
set_option maxHeartbeats 1000000 in
theorem leave_any (R g cap gb : Nat) (l : List In) (ov : Value) (bs : List Bool) (q : List Nat) (x : Nat) (v : In) (w : World) (h : WS w R g cap gb l ov bs q) (hv : l[x]? = some v) (hA : AllIns l) (hn : l.length ≤ 1000) :
    Calls Tryz.prog 183 #[.pointer (some ⟨R, 0, none⟩), .int .i64 x] w (ReachZ w R g cap gb l (mkB (mkB bs (nx1 v x)) (nx2 v x)) (mkQ (mkB bs (nx1 v x)) (mkQ bs q (nx1 v x)) (nx2 v x))) := by
  have hxl : x < l.length := (List.getElem?_eq_some_iff.1 hv).1
  obtain ⟨z1, z2⟩ := nx_ok hA hv
  have H : Hid (WS w R g cap gb l ov bs q) := h
  have Z1 : Hid (nx1 v x = -1 ∨ ∃ j : Nat, nx1 v x = j ∧ j < l.length) := z1
  have Z2 : Hid (nx2 v x = -1 ∨ ∃ j : Nat, nx2 v x = j ∧ j < l.length) := z2
  obtain ⟨d0, d1, d2, d3, d4, d5, d6, d7, d8, d9, d10, d11, d12, d13⟩ := (h.code.ins x v hv).cells
  obtain ⟨⟨c0, c1, c2, fz⟩, _, _, _, hlen, hcnt, hg, hR, hne⟩ := h
  have hl : R < w.heap.size := H.out.wk.lt
  have hRg : ¬ R = g := by omega
  have hgR : ¬ g = R := by omega
  have hx1 : x ≤ 1000 := by omega
  clear hv z1 z2
  go_enter Tryz.func183, Tryz.ntmps183
  go_wp2_with fail
  refine (nextOf_any v x _ hx1).mono ?_
  rintro e w1 ⟨rfl, k1⟩
  have H1 : Hid (WS w1 R g cap gb l ov bs q) := H.out.nw k1
  have K1 : Hid (Kp (fun b => gb ≤ b) w w1) := k1.mono (fun _ _ h => False.elim h)
  clear k1 d0 d1 d2 d3 d4 d5 d6 d7 d8 d9 d10 d11 d12 d13 c0 c1 c2 fz
  generalize nx1 v x = n1 at *
  generalize nx2 v x = n2 at *
  go_wp2_with fail
  refine (reachZ_any R g cap gb n1 l ov bs q w1 H1.out Z1.out hn).mono ?_
  rintro e w2 ⟨rfl, ov2, hw2, k2⟩
  have H2 : Hid (WS w2 R g cap gb l ov2 (mkB bs n1) (mkQ bs q n1)) := hw2
  have K2 : Hid (Kp (fun b => gb ≤ b) w w2) := K1.out.trans k2
  clear hw2 k2
  go_wp2_with fail
  refine (reachZ_any R g cap gb n2 l ov2 _ _ w2 H2.out Z2.out hn).mono ?_
  rintro e w3 ⟨rfl, ov3, hw3, k3⟩
  go_wp2
  go_end0
  exact ⟨rfl, ov3, hw3, K2.out.trans k3⟩
end Go.Proofs.YtcboiapggnmpfaaGreat
