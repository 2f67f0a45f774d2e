/- Walks: spotterref: Has, Place. -/
import Derived.Test.YtcboiapggnmpfaaGreatWd
import Derived.Test.YtcboiapggnmpfaaGreatQc
namespace Go.Proofs.YtcboiapggnmpfaaGreat
open Go.RowKit
set_option linter.unusedSimpArgs false
set_option linter.unusedVariables false

/-- How many fields a kind has; -1: it is not in the schema. -/
def hasF (l : List Int) (k : Int) : Int := if k = 4 then 0 else if 0 ≤ k ∧ k < l.length then l.getD k.toNat 0 - 48 else -1
theorem bI_getD (s : ByteArray) (k : Nat) (h : k < s.size) : (bI s).getD k 0 = (s[k].toNat : Int) := by
  unfold bI
  rw [List.getD_eq_getElem?_getD, List.getElem?_eq_getElem (by simpa using h)]
  simp
  rfl
theorem ret_int {k : IntKind} {a b : Int} (h : a = b) : Ending.returned (.int k a) = .returned (.int k b) := by rw [h]
set_option maxHeartbeats 1000000 in
theorem Has_any (s : ByteArray) (k : Int) (w : World) (hs : s.size ≤ maxLen) :
    Calls Tryz.prog 151 #[.string s, .int .i64 k] w fun e w' => e = .returned (.int .i64 (hasF (bI s) k)) ∧ w' = w := by
  unfold maxLen at hs
  by_cases h0 : k = 4
  · subst h0
    go_enter Tryz.func151, Tryz.ntmps151
    go_wp2
    go_ret
    exact ⟨by simp [hasF], rfl⟩
  have h0' : (k == 4) = false := by simp [h0]
  by_cases h1 : 0 ≤ k
  · obtain ⟨n, rfl⟩ := Int.eq_ofNat_of_zero_le h1
    by_cases h2 : n < s.size
    · have h3 : (n : Int) < (s.size : Int) := by omega
      have hg := bI_getD s n h2
      have hr : Hid (hasF (bI s) n = (s[n].toNat : Int) - 48) := by
        show hasF (bI s) n = _
        simp only [hasF, bI_length, if_neg h0]
        rw [if_pos ⟨h1, h3⟩, Int.toNat_natCast, hg]
      have hb : (s[n].toNat : Int) < 256 := by have := UInt8.toNat_lt s[n]; omega
      clear hg
      go_enter Tryz.func151, Tryz.ntmps151
      go_wp2
      go_ret
      refine ⟨ret_int ?_, rfl⟩
      rw [hr.out]
    · have h3 : (s.size : Int) ≤ n := by omega
      go_enter Tryz.func151, Tryz.ntmps151
      go_wp2
      go_ret
      refine ⟨ret_int ?_, rfl⟩
      unfold hasF
      rw [if_neg h0, if_neg (by rw [bI_length]; omega)]
  · go_enter Tryz.func151, Tryz.ntmps151
    go_wp2
    go_ret
    refine ⟨ret_int ?_, rfl⟩
    unfold hasF
    rw [if_neg h0, if_neg (by omega)]

def f0 : Fm := ⟨0, 0, 0, 0, 0⟩
/-- The five cells of a form that lie at block b. -/
structure FmAt (w : World) (b : Nat) (f : Fm) : Prop where
  c0 : w.cell? ⟨b, 0, none⟩ = some (.int .i64 f.st)
  c1 : w.cell? ⟨b, 1, none⟩ = some (.int .i64 f.op)
  c2 : w.cell? ⟨b, 2, none⟩ = some (.int .i64 f.dg)
  c3 : w.cell? ⟨b, 3, none⟩ = some (.int .i64 f.tm)
  c4 : w.cell? ⟨b, 4, none⟩ = some (.int .i64 f.lw)
  z0 : w.frozen? ⟨b, 0, none⟩ = false
  z1 : w.frozen? ⟨b, 1, none⟩ = false
  z2 : w.frozen? ⟨b, 2, none⟩ = false
  z3 : w.frozen? ⟨b, 3, none⟩ = false
  z4 : w.frozen? ⟨b, 4, none⟩ = false
theorem FmAt.below {w w1 : World} {b B : Nat} {f : Fm} (h : FmAt w b f) (hb : Below B w w1) (hB : b < B) : FmAt w1 b f := by
  obtain ⟨h0, h1, h2, h3, h4, h5, h6, h7, h8, h9⟩ := h
  constructor
  all_goals first | (rw [hb.cell (p := ⟨b, _, none⟩) hB]; assumption) | (rw [hb.frozen (p := ⟨b, _, none⟩) hB]; assumption)

theorem FmAt.set5 {w : World} {b : Nat} {g : Fm} (h : FmAt w b g) (v0 v1 v2 v3 v4 : Int) :
    FmAt (((((w.setCell ⟨b, 0, none⟩ (.int .i64 v0)).setCell ⟨b, 1, none⟩ (.int .i64 v1)).setCell ⟨b, 2, none⟩ (.int .i64 v2)).setCell ⟨b, 3, none⟩ (.int .i64 v3)).setCell ⟨b, 4, none⟩ (.int .i64 v4)) b ⟨v0, v1, v2, v3, v4⟩ := by
  obtain ⟨h0, h1, h2, h3, h4, h5, h6, h7, h8, h9⟩ := h
  constructor <;> simp [go_sem, h0, h1, h2, h3, h4, h5, h6, h7, h8, h9]
theorem FmAt.alloc {w : World} {b : Nat} {g : Fm} (h : FmAt w b g) (hb : b < w.heap.size) (o : Obj) : FmAt (w.alloc o) b g := by
  obtain ⟨h0, h1, h2, h3, h4, h5, h6, h7, h8, h9⟩ := h
  constructor <;> simp [go_sem, h0, h1, h2, h3, h4, h5, h6, h7, h8, h9, hb, World.cell?_alloc_past, World.frozen?_alloc_past]
theorem FmAt.other {w : World} {b : Nat} {g : Fm} (h : FmAt w b g) {c : Nat} (hc : ¬ c = b) (o : Nat) (v : Value) : FmAt (w.setCell ⟨c, o, none⟩ v) b g := by
  obtain ⟨h0, h1, h2, h3, h4, h5, h6, h7, h8, h9⟩ := h
  have hc' : ¬ b = c := fun e => hc e.symm
  constructor <;> simp [go_sem, h0, h1, h2, h3, h4, h5, h6, h7, h8, h9, hc, hc']
theorem FmAt.five {w : World} {b : Nat} {g : Fm} (h : FmAt w b g) (hb : b < w.heap.size) {v0 v1 v2 v3 v4 : Int} {o : Obj} :
    FmAt ((((((w.setCell ⟨b, 0, none⟩ (.int .i64 v0)).setCell ⟨b, 1, none⟩ (.int .i64 v1)).setCell ⟨b, 2, none⟩ (.int .i64 v2)).setCell ⟨b, 3, none⟩ (.int .i64 v3)).setCell ⟨b, 4, none⟩ (.int .i64 v4)).alloc o) b ⟨v0, v1, v2, v3, v4⟩ :=
  (h.set5 v0 v1 v2 v3 v4).alloc (by simp [World.setCell]; omega) _
theorem FmAt.ten {w : World} {b c : Nat} {g : Fm} (h : FmAt w b g) (hc : ¬ c = b) {u0 u1 u2 u3 u4 : Value} {v0 v1 v2 v3 v4 : Int} :
    FmAt ((((((((((w.setCell ⟨c, 0, none⟩ u0).setCell ⟨c, 1, none⟩ u1).setCell ⟨c, 2, none⟩ u2).setCell ⟨c, 3, none⟩ u3).setCell ⟨c, 4, none⟩ u4).setCell ⟨b, 0, none⟩ (.int .i64 v0)).setCell ⟨b, 1, none⟩ (.int .i64 v1)).setCell ⟨b, 2, none⟩ (.int .i64 v2)).setCell ⟨b, 3, none⟩ (.int .i64 v3)).setCell ⟨b, 4, none⟩ (.int .i64 v4)) b ⟨v0, v1, v2, v3, v4⟩ :=
  (((((h.other hc _ _).other hc _ _).other hc _ _).other hc _ _).other hc _ _).set5 v0 v1 v2 v3 v4
theorem below_five' {B c : Nat} {w w1 : World} (h : Below B w w1) (hc : B ≤ c) {u0 u1 u2 u3 u4 : Value} :
    Below B w (((((w1.setCell ⟨c, 0, none⟩ u0).setCell ⟨c, 1, none⟩ u1).setCell ⟨c, 2, none⟩ u2).setCell ⟨c, 3, none⟩ u3).setCell ⟨c, 4, none⟩ u4) :=
  ((((h.setCell hc _).setCell hc _).setCell hc _).setCell hc _).setCell hc _
theorem below_five {B c : Nat} {w w1 : World} (h : Below B w w1) (hc : B ≤ c) (hB : B ≤ w1.heap.size) {u0 u1 u2 u3 u4 : Value} {o : Obj} :
    Below B w ((((((w1.setCell ⟨c, 0, none⟩ u0).setCell ⟨c, 1, none⟩ u1).setCell ⟨c, 2, none⟩ u2).setCell ⟨c, 3, none⟩ u3).setCell ⟨c, 4, none⟩ u4).alloc o) :=
  (below_five' h hc).alloc (by simp [World.setCell]; omega) _
theorem below_ten {B b c : Nat} {w w1 : World} (h : Below B w w1) (hc : B ≤ c) (hb : B ≤ b) {u0 u1 u2 u3 u4 v0 v1 v2 v3 v4 : Value} :
    Below B w ((((((((((w1.setCell ⟨c, 0, none⟩ u0).setCell ⟨c, 1, none⟩ u1).setCell ⟨c, 2, none⟩ u2).setCell ⟨c, 3, none⟩ u3).setCell ⟨c, 4, none⟩ u4).setCell ⟨b, 0, none⟩ v0).setCell ⟨b, 1, none⟩ v1).setCell ⟨b, 2, none⟩ v2).setCell ⟨b, 3, none⟩ v3).setCell ⟨b, 4, none⟩ v4) :=
  below_five' (below_five' h hc) hb
theorem over_is {st op dg tm lw : Int} {b : Bool} (h : overF ⟨st, op, dg, tm, lw⟩ = b) (w : World) :
    Calls Tryz.prog 149 #[.agg #[.int .i64 st, .int .i64 op, .int .i64 dg, .int .i64 tm, .int .i64 lw]] w fun e w' => e = .returned (.bool b) ∧ Below w.heap.size w w' := by
  subst h
  exact over_any st op dg tm lw w
theorem keep5 {W w1 : World} {b : Nat} {v0 v1 v2 v3 v4 : Option Value} (hb : Below W.heap.size W w1) (h : b < W.heap.size)
    (hS : W.cell? ⟨b, 0, none⟩ = v0 ∧ W.cell? ⟨b, 1, none⟩ = v1 ∧ W.cell? ⟨b, 2, none⟩ = v2 ∧ W.cell? ⟨b, 3, none⟩ = v3 ∧ W.cell? ⟨b, 4, none⟩ = v4) :
    w1.cell? ⟨b, 0, none⟩ = v0 ∧ w1.cell? ⟨b, 1, none⟩ = v1 ∧ w1.cell? ⟨b, 2, none⟩ = v2 ∧ w1.cell? ⟨b, 3, none⟩ = v3 ∧ w1.cell? ⟨b, 4, none⟩ = v4 := by
  obtain ⟨h0, h1, h2, h3, h4⟩ := hS
  exact ⟨(hb.cell (p := ⟨b, 0, none⟩) h).trans h0, (hb.cell (p := ⟨b, 1, none⟩) h).trans h1, (hb.cell (p := ⟨b, 2, none⟩) h).trans h2, (hb.cell (p := ⟨b, 3, none⟩) h).trans h3, (hb.cell (p := ⟨b, 4, none⟩) h).trans h4⟩
theorem keepz5 {W w1 : World} {b : Nat} (hb : Below W.heap.size W w1) (h : b < W.heap.size)
    (hS : W.frozen? ⟨b, 0, none⟩ = false ∧ W.frozen? ⟨b, 1, none⟩ = false ∧ W.frozen? ⟨b, 2, none⟩ = false ∧ W.frozen? ⟨b, 3, none⟩ = false ∧ W.frozen? ⟨b, 4, none⟩ = false) :
    w1.frozen? ⟨b, 0, none⟩ = false ∧ w1.frozen? ⟨b, 1, none⟩ = false ∧ w1.frozen? ⟨b, 2, none⟩ = false ∧ w1.frozen? ⟨b, 3, none⟩ = false ∧ w1.frozen? ⟨b, 4, none⟩ = false := by
  obtain ⟨h0, h1, h2, h3, h4⟩ := hS
  exact ⟨(hb.frozen (p := ⟨b, 0, none⟩) h).trans h0, (hb.frozen (p := ⟨b, 1, none⟩) h).trans h1, (hb.frozen (p := ⟨b, 2, none⟩) h).trans h2, (hb.frozen (p := ⟨b, 3, none⟩) h).trans h3, (hb.frozen (p := ⟨b, 4, none⟩) h).trans h4⟩
/-- Below B all is as it was over a draw, an alloc and a call. -/
theorem below_via {B : Nat} {w wr W w1 : World} (h : Below B w wr) (hb : Below W.heap.size W w1) (hB : B ≤ wr.heap.size) (hW : Below B wr W) : Below B w w1 :=
  (h.trans hW).trans (hb.mono (Nat.le_trans hB hW.size))
set_option maxRecDepth 100000 in
set_option maxHeartbeats 8000000 in
theorem Place_any (s : ByteArray) (w : World) (hs : s.size ≤ maxLen) :
    Calls Tryz.prog 97 #[.string s] w fun e w' => e = .returned (.int .i64 (placeT s.size f0 0 (bI s))) ∧ Below w.heap.size w w' := by
  unfold maxLen at hs
  go_enter Tryz.func97, Tryz.ntmps97
  go_wp2
  go_loopw [4] (fun i wr => ∃ (k : Nat) (f : Fm), k ≤ s.size ∧ i = .int .i64 k ∧ Small f ∧ placeT s.size f0 0 (bI s) = placeT s.size f k ((bI s).drop k) ∧ FmAt wr w.heap.size f ∧ Below w.heap.size w wr ∧ w.heap.size < wr.heap.size) (fun i _ => s.size - (intOf i).toNat)
  case atStart =>
    refine ⟨0, f0, Nat.zero_le _, rfl, ?_, by simp, ?_, (Below.refl _ _).alloc (Nat.le_refl _) _, by simp⟩
    · constructor <;> simp [f0]
    · constructor <;> simp [f0, go_sem]
  case round =>
    obtain ⟨k, ⟨st, op, dg, tm, lw⟩, hk, rfl, hsm, hall, hat, hbl, hsz⟩ := hrel
    have HA : Hid _ := hall
    clear hall
    obtain ⟨g0, g1, g2, g3, g4, z0, z1, z2, z3, z4⟩ := hat
    simp only at g0 g1 g2 g3 g4
    obtain ⟨⟨a1, a2⟩, ⟨a3, a4⟩, ⟨a5, a6⟩, ⟨a7, a8⟩, ⟨a9, a10⟩⟩ := id hsm
    have HS : Hid _ := hsm
    clear hsm
    simp only at a1 a2 a3 a4 a5 a6 a7 a8 a9 a10
    by_cases hlt : k < s.size
    · have HD : Hid _ := bI_drop s k hlt
      by_cases h32 : (s[k].toNat : Int) = 32
      · go_wp2
        go_roundw
        case rel => exact ⟨k + 1, ⟨st, op, dg, tm, lw⟩, by omega, by go_num, HS.out, by rw [HA.out, HD.out, placeT, if_pos h32], ⟨g0, g1, g2, g3, g4, z0, z1, z2, z3, z4⟩, hbl, hsz⟩
        case measure => simp [intOf]; omega
      · have b1 : (s[k].toNat : Int) ≤ 255 := by have := UInt8.toNat_lt s[k]; omega
        have b0 : 0 ≤ (s[k].toNat : Int) := by omega
        have hwr : IntKind.i64.wrap (s[k].toNat : Int) = (s[k].toNat : Int) := IntWalk.i64_in _ (by omega)
        have hsz2 : w.heap.size < wr.heap.size + 1 := by omega
        have i0 : (0 : Int) ≤ (k : Int) := by omega
        have i1 : (k : Int) < (s.size : Int) := by omega
        go_wp2
        go_region_held3 (fun w' => w'.cell? ⟨w.heap.size, 0, none⟩ = some (.int .i64 st) ∧ w'.cell? ⟨w.heap.size, 1, none⟩ = some (.int .i64 op) ∧ w'.cell? ⟨w.heap.size, 2, none⟩ = some (.int .i64 dg) ∧ w'.cell? ⟨w.heap.size, 3, none⟩ = some (.int .i64 tm) ∧ w'.cell? ⟨w.heap.size, 4, none⟩ = some (.int .i64 lw)) (first | (simp [go_sem, hsz3, q0, q1, q2, q3, q4, World.cell?_alloc_past]; done) | (simp [go_sem, hsz, hsz2, g0, g1, g2, g3, g4, World.cell?_alloc_past]; done))
          (first | (go_at_call 148; refine (next_any st op dg tm lw _ _ a3 a4 a5 a6 b0 b1).mono ?_; rintro e w1 ⟨st', op', dg', tm', lw', b, rfl, hf, hb⟩; obtain ⟨hc, hz⟩ := oldCells hb; have hsz1 := hb.size; obtain ⟨q0, q1, q2, q3, q4⟩ := keep5 (v0 := some (.int .i64 st)) (v1 := some (.int .i64 op)) (v2 := some (.int .i64 dg)) (v3 := some (.int .i64 tm)) (v4 := some (.int .i64 lw)) hb (by simp; omega) (by simp [go_sem, hsz, hsz2, g0, g1, g2, g3, g4, World.cell?_alloc_past]); have hsz3 : w.heap.size < w1.heap.size := (by simp at hsz1; omega); have HF : Hid _ := hf; have HBL : Hid (Below w.heap.size w w1) := (by exact below_via hbl hb (by omega) (by first | exact (Below.refl _ _).drew | exact ((Below.refl _ _).drew).alloc (by simp; omega) _ | exact ((Below.refl _ _).alloc (by omega) _).drew)); obtain ⟨p0, p1, p2, p3, p4⟩ := keepz5 hb (b := w.heap.size) (by simp; omega) (by simp [go_sem, hsz, hsz2, z0, z1, z2, z3, z4, World.frozen?_alloc_past]); clear hf hb))
        all_goals cases b
        all_goals go_wp2
        · go_ret
          refine ⟨ret_int (by rw [HA.out, HD.out, placeT, if_neg h32, HF.out]; rfl), ?_⟩
          go_light
          exact HBL.out.alloc (Nat.le_of_lt hsz3) _
        · go_roundw
          case rel =>
            go_light
            have hne : ¬ wr.heap.size = w.heap.size := by omega
            have hF : FmAt w1 w.heap.size ⟨st, op, dg, tm, lw⟩ := ⟨q0, q1, q2, q3, q4, p0, p1, p2, p3, p4⟩
            refine ⟨k + 1, ⟨st', op', dg', tm', lw'⟩, by omega, by go_num, nextF_small HS.out HF.out, by rw [HA.out, HD.out, placeT, if_neg h32, HF.out]; rfl, ?_, ?_, ?_⟩
            · exact FmAt.five hF hsz3
            · exact below_five HBL.out (Nat.le_refl _) (Nat.le_of_lt hsz3)
            · simp [World.setCell]; omega
          case measure => simp [intOf]; omega
        · go_ret
          refine ⟨ret_int (by rw [HA.out, HD.out, placeT, if_neg h32, HF.out]; rfl), ?_⟩
          go_light
          exact below_five' HBL.out (Nat.le_of_lt hsz)
        · go_roundw
          case rel =>
            go_light
            have hne : ¬ wr.heap.size = w.heap.size := by omega
            have hF : FmAt w1 w.heap.size ⟨st, op, dg, tm, lw⟩ := ⟨q0, q1, q2, q3, q4, p0, p1, p2, p3, p4⟩
            refine ⟨k + 1, ⟨st', op', dg', tm', lw'⟩, by omega, by go_num, nextF_small HS.out HF.out, by rw [HA.out, HD.out, placeT, if_neg h32, HF.out]; rfl, ?_, ?_, ?_⟩
            · exact FmAt.ten hF hne
            · exact below_ten HBL.out (Nat.le_of_lt hsz) (Nat.le_refl _)
            · simp [World.setCell]; omega
          case measure => simp [intOf]; omega
        · go_ret
          refine ⟨ret_int (by rw [HA.out, HD.out, placeT, if_neg h32, HF.out]; rfl), ?_⟩
          go_light
          exact below_five' HBL.out (Nat.le_of_lt hsz)
        · go_roundw
          case rel =>
            go_light
            have hne : ¬ wr.heap.size = w.heap.size := by omega
            have hF : FmAt w1 w.heap.size ⟨st, op, dg, tm, lw⟩ := ⟨q0, q1, q2, q3, q4, p0, p1, p2, p3, p4⟩
            refine ⟨k + 1, ⟨st', op', dg', tm', lw'⟩, by omega, by go_num, nextF_small HS.out HF.out, by rw [HA.out, HD.out, placeT, if_neg h32, HF.out]; rfl, ?_, ?_, ?_⟩
            · exact FmAt.ten hF hne
            · exact below_ten HBL.out (Nat.le_of_lt hsz) (Nat.le_refl _)
            · simp [World.setCell]; omega
          case measure => simp [intOf]; omega
    · have HE : Hid ((bI s).drop k = []) := by rw [show k = s.size by omega]; exact bI_drop_end s
      rcases Bool.eq_false_or_eq_true (overF ⟨st, op, dg, tm, lw⟩) with ho | ho
      all_goals
        go_wp2_with (go_at_call 149; refine (over_is ho _).mono ?_; rintro e w1 ⟨rfl, hb⟩)
        go_ret
        refine ⟨ret_int ?_, hbl.trans (hb.mono (by omega))⟩
        rw [HA.out, HE.out, placeT, ho]
        simp
end Go.Proofs.YtcboiapggnmpfaaGreat
