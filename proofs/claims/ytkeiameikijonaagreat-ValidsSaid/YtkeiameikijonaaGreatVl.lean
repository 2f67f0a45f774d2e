/- Walks: program: leaving an instruction. -/
import Derived.Test.YtkeiameikijonaaGreatVk
namespace Go.Proofs.YtkeiameikijonaaGreat
open Go.RowKit
set_option linter.unusedSimpArgs false
set_option linter.unusedVariables false

/-- Behind a step to one more. -/
def LeavPost (w : World) (R g cap gb : Nat) (l : List In) (i : Nat) (done : Nat → Prop) (n x : Nat) (ys : List Nat) (e : Ending) (w' : World) : Prop :=
  e = .returned (.tuple #[]) ∧ ∃ ov' bs' q', WS w' R g cap gb l ov' bs' q' ∧ Leav l false i bs' done q' x ys ∧ q'.length + bs'.count false = n ∧ Kp (fun b => gb ≤ b) w w'
theorem eqb_no {a b : Int} (h : ¬ a = b) : (a == b) = false := by simp [h]
theorem reachL_any (R g cap gb j : Nat) (l : List In) (ov : Value) (bs : List Bool) (q : List Nat) (i : Nat) (done : Nat → Prop) (x : Nat) (ys : List Nat) (w : World) (h : WS w R g cap gb l ov bs q) (hL : Leav l false i bs done q x ys) (he : Edge l false x j) (hj : j < l.length) (hn : l.length ≤ 1000) :
    Calls Tryz.prog 152 #[.pointer (some ⟨R, 0, none⟩), .int .i64 j] w (LeavPost w R g cap gb l i done (q.length + bs.count false) x (ys ++ [j])) := by
  refine (reach_any R g cap gb j l ov bs q w h hj hn).mono ?_
  rintro e w' ⟨rfl, h1⟩
  refine ⟨rfl, ?_⟩
  rcases h1 with ⟨hb, rfl⟩ | ⟨hb, ov', hw, hk⟩
  · exact ⟨ov, bs, q, h, hL.skip hb, rfl, Kp.refl _ _⟩
  · refine ⟨ov', _, _, hw, hL.mark he hj, ?_, hk⟩
    have := count_set hb
    simp; omega
set_option maxRecDepth 100000 in
set_option maxHeartbeats 1000000 in
theorem leave_any (R g cap gb : Nat) (l : List In) (ov : Value) (bs : List Bool) (q : List Nat) (i : Nat) (done : Nat → Prop) (x : Nat) (v : In) (w : World) (h : WS w R g cap gb l ov bs q) (hL : Leav l false i bs done q x []) (hv : l[x]? = some v) (h0 : ¬ v.op = 0) (hA : AllIns l) (hn : l.length ≤ 1000) :
    Calls Tryz.prog 153 #[.pointer (some ⟨R, 0, none⟩), .int .i64 x] w (LeavPost w R g cap gb l i done (q.length + bs.count false) x (nxt v x)) := by
  have hxl : x < l.length := (List.getElem?_eq_some_iff.1 hv).1
  have hab := (hA x v hv).1
  have ha : 0 ≤ v.a ∧ 0 ≤ v.b := by
    simp only [insIsB, Bool.and_eq_true, decide_eq_true_eq] at hab
    omega
  have hedge : ∀ j, j ∈ nxt v x → Edge l false x j := fun j hj => (edge_of hv (fun e => absurd e h0)).2 hj
  have hlt := nxt_lt hA hv
  have H : Hid (WS w R g cap gb l ov bs q) := h
  have HL : Hid (Leav l false i bs done q x []) := hL
  have HV : Hid (l[x]? = some v) := hv
  obtain ⟨q0, a0, hc⟩ := (h.code.ins x v hv).cells
  have b0 := hc.1
  obtain ⟨⟨c0, c1, c2, fz⟩, _, _, _, hlen, hcnt, hg, hR, hne⟩ := h
  have hl : R < w.heap.size := H.out.wk.lt
  have hRg : ¬ R = g := by omega
  clear hL hv hc hab
  by_cases h4 : v.op = 4
  · have e1 : nxt v x = [v.a.toNat] := by simp [nxt, h4]
    rw [e1] at hedge hlt ⊢
    rw [h4] at q0
    have ea : v.a = (v.a.toNat : Int) := by omega
    generalize v.a.toNat = na at *
    rw [ea] at a0
    go_enter Tryz.func153, Tryz.ntmps153
    go_wp2_with fail
    refine (reachL_any R g cap gb na l ov bs q i done x [] w H.out HL.out (hedge _ (by simp)) (hlt _ (by simp)) hn).mono ?_
    rintro e w2 ⟨rfl, h2⟩
    go_wp2
    go_end0
    exact ⟨rfl, h2⟩
  by_cases h5 : v.op = 5
  · have e1 : nxt v x = [v.a.toNat, v.b.toNat] := by simp [nxt, h5]
    rw [e1] at hedge hlt ⊢
    rw [h5] at q0
    have ea : v.a = (v.a.toNat : Int) := by omega
    have eb : v.b = (v.b.toNat : Int) := by omega
    generalize v.a.toNat = na at *
    generalize v.b.toNat = nb at *
    rw [ea] at a0
    rw [eb] at b0
    go_enter Tryz.func153, Tryz.ntmps153
    go_wp2_with fail
    refine (reachL_any R g cap gb na l ov bs q i done x [] w H.out HL.out (hedge _ (by simp)) (hlt _ (by simp)) hn).mono ?_
    rintro e w2 ⟨rfl, ov2, bs2, q2, hw2, hL2, hc2, k2⟩
    have H2 : Hid (WS w2 R g cap gb l ov2 bs2 q2) := hw2
    have HL2 : Hid (Leav l false i bs2 done q2 x [na]) := hL2
    have K2 : Hid (Kp (fun b => gb ≤ b) w w2) := k2
    have b2 : w2.cell? ⟨g, x * 14 + 2, none⟩ = some (.int .i64 (nb : Int)) := (k2.cell (p := ⟨g, x * 14 + 2, none⟩) (by show g < _; omega) (by show ¬ gb ≤ g; omega)).trans b0
    obtain ⟨⟨d0, d1, d2, fz2⟩, _⟩ := hw2
    clear c0 c1 c2 fz hL2 k2 a0 b0
    go_wp2_with fail
    refine (reachL_any R g cap gb nb l ov2 bs2 q2 i done x [na] w2 H2.out HL2.out (hedge _ (by simp)) (hlt _ (by simp)) hn).mono ?_
    rintro e w3 ⟨rfl, ov3, bs3, q3, hw3, hL3, hc3, k3⟩
    go_wp2
    go_end0
    exact ⟨rfl, ov3, bs3, q3, hw3, hL3, by omega, K2.out.trans k3⟩
  by_cases h6 : v.op = 6
  · have e1 : nxt v x = [] := by simp [nxt, h6]
    rw [e1]
    rw [h6] at q0
    go_enter Tryz.func153, Tryz.ntmps153
    go_wp2
    go_end0
    exact ⟨rfl, ov, bs, q, H.out, HL.out, rfl, Kp.refl _ _⟩
  · have e1 : nxt v x = [x + 1] := by simp [nxt, h4, h5, h6]
    rw [e1] at hedge hlt ⊢
    have n4 := eqb_no h4
    have n5 := eqb_no h5
    have n6 := eqb_no h6
    go_enter Tryz.func153, Tryz.ntmps153
    go_wp2_with fail
    refine (reachL_any R g cap gb (x + 1) l ov bs q i done x [] w H.out HL.out (hedge _ (by simp)) (hlt _ (by simp)) hn).mono ?_
    rintro e w2 ⟨rfl, h2⟩
    go_wp2
    go_end0
    exact ⟨rfl, h2⟩
end Go.Proofs.YtkeiameikijonaaGreat
