/- Walks: spotterref: the places behind a point; a term's and a test's names turned into places. -/
import Derived.Test.YtcboiapggnmpfaaGreatGp
import Derived.Test.YtcboiapggnmpfaaGreatQj
import Derived.Test.YtcboiapggnmpfaaGreatCd
import Derived.Deep.DeepCutAuto
namespace Go.Proofs.YtcboiapggnmpfaaGreat
open Go.RowKit
set_option linter.unusedSimpArgs false
set_option linter.unusedVariables false

def PlacedPost (w : World) (e : Ending) (w' : World) : Prop := ∃ t : Tm, e = .returned (.agg #[.int .i64 t.of, .int .i64 t.field, .int .i64 t.num]) ∧ Nw w w'
/-- A list of ints that is only read. -/
structure IntsR (w : World) (v : Value) (l : List Int) : Prop where
  len : ∃ p c, v = .slice p l.length c
  cell : ∀ (i : Nat) (x : Int), l[i]? = some x → ∃ g c, v = .slice (some ⟨g, 0, none⟩) l.length c ∧ g < w.heap.size ∧ w.cell? ⟨g, i, none⟩ = some (.int .i64 x)
theorem IntsR.of {w : World} {base : Nat} {v : Value} {l : List Int} (h : w.ownsRow base 3 1 v l.length (l.map (Value.int .i64))) : IntsR w v l := by
  refine ⟨owns_lenL h, ?_⟩
  intro i x hx
  have hj : 0 < l.length := by have := (List.getElem?_eq_some_iff.1 hx).1; omega
  obtain ⟨g, c, rfl, _, hg⟩ := h.form hj
  exact ⟨g, c, rfl, hg, owns_cell h i (by rw [List.getElem?_map, hx]; rfl)⟩
theorem IntsR.kp {S : Nat → Prop} {w w' : World} {v : Value} {l : List Int} (h : IntsR w v l) (k : Kp S w w') (hs : ∀ g, v.ownBlock = some g → ¬ S g) : IntsR w' v l := by
  refine ⟨h.len, ?_⟩
  intro i x hx
  obtain ⟨g, c, e, hg, d⟩ := h.cell i x hx
  exact ⟨g, c, e, Nat.lt_of_lt_of_le hg k.size, (k.cell (p := ⟨g, i, none⟩) hg (hs g (by rw [e]; rfl))).trans d⟩
theorem IntsR.nw {w w' : World} {v : Value} {l : List Int} (h : IntsR w v l) (k : Nw w w') : IntsR w' v l := h.kp k (fun _ _ h => h)
theorem nw_set3 {w W : World} (h : Nw w W) (a b c : Value) : Nw w (((W.setCell ⟨w.heap.size + 1, 0, none⟩ a).setCell ⟨w.heap.size + 1, 1, none⟩ b).setCell ⟨w.heap.size + 1, 2, none⟩ c) :=
  ((h.setCell (p := ⟨w.heap.size + 1, 0, none⟩) (Or.inl (Nat.le_succ _)) _).setCell (p := ⟨w.heap.size + 1, 1, none⟩) (Or.inl (Nat.le_succ _)) _).setCell (p := ⟨w.heap.size + 1, 2, none⟩) (Or.inl (Nat.le_succ _)) _
set_option maxRecDepth 100000 in
set_option maxHeartbeats 2000000 in
theorem placed_any (lv : Value) (l : List Int) (of field num : Int) (w : World) (h : IntsR w lv l) (hl : l.length ≤ 100000) :
    Calls Tryz.prog 191 #[lv, .agg #[.int .i64 of, .int .i64 field, .int .i64 num]] w (PlacedPost w) := by
  have H : Hid (IntsR w lv l) := h
  obtain ⟨p, c, rfl⟩ := h.len
  clear h
  by_cases h2 : of < 2
  · go_enter Tryz.func191, Tryz.ntmps191
    go_wp2
    refine bodyPost_ret (by simp [results, Tryz.results191, go_sem]; rfl) rfl ?_
    exact ⟨⟨of, field, num⟩, rfl, ((Kp.refl _ w).alloc _).alloc _⟩
  · have h2' : decide (of < 2) = false := by simp; omega
    go_enter Tryz.func191, Tryz.ntmps191
    go_wp2
    go_loopg [5] l.length (fun m v5 wr => ∃ i j : Nat, v5 = .int .i64 i ∧ m = l.length - i ∧ i ≤ l.length ∧ wr = ((w.alloc (.cells #[.int .i64 of, .int .i64 field, .int .i64 num] 36)).alloc (.cells #[.int .i64 0, .int .i64 0, .int .i64 0] 36)).drewN j)
    case atStart => exact ⟨0, 0, rfl, rfl, by omega, rfl⟩
    case round =>
      obtain ⟨i, jd, rfl, hm, hi, rfl⟩ := hrel
      by_cases hi' : i < l.length
      · obtain ⟨x, hx⟩ : ∃ x, l[i]? = some x := ⟨l[i], by simp [hi']⟩
        obtain ⟨g, c', e', hg, d0⟩ := H.out.cell i x hx
        simp only [Value.slice.injEq, true_and] at e'
        obtain ⟨rfl, rfl⟩ := e'
        have hg1 : ¬ g = w.heap.size := by omega
        have hg2 : ¬ g = w.heap.size + 1 := by omega
        have hii : (i : Int) < l.length := by omega
        clear hx
        generalize hof : IntKind.i64.wrap (of - 2) = ow
        by_cases hxe : x = ow
        · have hxe' : (x == ow) = true := by simp [hxe]
          have HW : Hid (IntKind.i64.wrap (of - 2) = ow) := hof
          clear hxe
          go_wp2
          go_quiet (fail)
          go_wp2
          refine bodyPost_ret (by simp [results, Tryz.results191, go_sem]; rfl) rfl ?_
          exact ⟨⟨2 + i, field, 0⟩, rfl, nw_set3 ((((Kp.refl _ w).alloc _).alloc _).drewN _) _ _ _⟩
        · have hxe' : (x == ow) = false := by simp [hxe]
          clear hxe
          go_wp2
          go_quiet (fail)
          go_wp2
          go_roundg (l.length - (i + 1))
          case measure => omega
          case rel => exact ⟨i + 1, _, by simp, rfl, by omega, rfl⟩
      · go_wp2
        refine bodyPost_ret (by simp [results, Tryz.results191, go_sem]; rfl) rfl ?_
        exact ⟨⟨of, field, num⟩, rfl, nw_set3 ((((Kp.refl _ w).alloc _).alloc _).drewN _) _ _ _⟩
def SettledPost (w : World) (e : Ending) (w' : World) : Prop := ∃ a0 a1 a2 a3 a4 a5 a6 a7 a8 a9 a10 : Int, e = .returned (.agg (c11 a0 a1 a2 a3 a4 a5 a6 a7 a8 a9 a10).toArray) ∧ Nw w w'
theorem c3_at {w w1 w2 : World} {B : Nat} {a0 a1 a2 : Int} (hB : B = w1.heap.size) (k : Nw (w1.alloc (.cells #[.int .i64 a0, .int .i64 a1, .int .i64 a2] 36)) w2) : w2.cell? ⟨B, 0, none⟩ = some (.int .i64 a0) ∧ w2.cell? ⟨B, 1, none⟩ = some (.int .i64 a1) ∧ w2.cell? ⟨B, 2, none⟩ = some (.int .i64 a2) ∧ B < w2.heap.size := by
  subst hB
  refine ⟨?_, ?_, ?_, ?_⟩
  · rw [k.cell (p := ⟨w1.heap.size, 0, none⟩) (by simp) (fun h => h)]; simp [go_sem]
  · rw [k.cell (p := ⟨w1.heap.size, 1, none⟩) (by simp) (fun h => h)]; simp [go_sem]
  · rw [k.cell (p := ⟨w1.heap.size, 2, none⟩) (by simp) (fun h => h)]; simp [go_sem]
  · have := k.size; simp at this; omega
structure TstAt' (w : World) (g : Nat) (a0 a1 a2 a3 a4 a5 a6 a7 a8 a9 a10 : Int) : Prop where
  c0 : w.cell? ⟨g, 0, none⟩ = some (.int .i64 a0)
  c1 : w.cell? ⟨g, 1, none⟩ = some (.int .i64 a1)
  c2 : w.cell? ⟨g, 2, none⟩ = some (.int .i64 a2)
  c3 : w.cell? ⟨g, 3, none⟩ = some (.int .i64 a3)
  c4 : w.cell? ⟨g, 4, none⟩ = some (.int .i64 a4)
  c5 : w.cell? ⟨g, 5, none⟩ = some (.int .i64 a5)
  c6 : w.cell? ⟨g, 6, none⟩ = some (.int .i64 a6)
  c7 : w.cell? ⟨g, 7, none⟩ = some (.int .i64 a7)
  c8 : w.cell? ⟨g, 8, none⟩ = some (.int .i64 a8)
  c9 : w.cell? ⟨g, 9, none⟩ = some (.int .i64 a9)
  c10 : w.cell? ⟨g, 10, none⟩ = some (.int .i64 a10)
theorem TstAt'.nw {w w' : World} {g : Nat} {a0 a1 a2 a3 a4 a5 a6 a7 a8 a9 a10 : Int} (h : TstAt' w g a0 a1 a2 a3 a4 a5 a6 a7 a8 a9 a10) (hg : g < w.heap.size) (k : Nw w w') : TstAt' w' g a0 a1 a2 a3 a4 a5 a6 a7 a8 a9 a10 := by
  have c : ∀ o, w'.cell? ⟨g, o, none⟩ = w.cell? ⟨g, o, none⟩ := fun o => k.cell (p := ⟨g, o, none⟩) hg (fun h => h)
  exact ⟨(c 0).trans h.c0, (c 1).trans h.c1, (c 2).trans h.c2, (c 3).trans h.c3, (c 4).trans h.c4, (c 5).trans h.c5, (c 6).trans h.c6, (c 7).trans h.c7, (c 8).trans h.c8, (c 9).trans h.c9, (c 10).trans h.c10⟩
theorem t11_at {w w2 : World} {a0 a1 a2 a3 a4 a5 a6 a7 a8 a9 a10 : Int} {ob : Obj} (k : Nw ((w.alloc (.cells #[.int .i64 a0, .int .i64 a1, .int .i64 a2, .int .i64 a3, .int .i64 a4, .int .i64 a5, .int .i64 a6, .int .i64 a7, .int .i64 a8, .int .i64 a9, .int .i64 a10] 38)).alloc ob) w2) : TstAt' w2 w.heap.size a0 a1 a2 a3 a4 a5 a6 a7 a8 a9 a10 ∧ w.heap.size < w2.heap.size := by
  have h : ∀ o, w2.cell? ⟨w.heap.size, o, none⟩ = (w.alloc (.cells #[.int .i64 a0, .int .i64 a1, .int .i64 a2, .int .i64 a3, .int .i64 a4, .int .i64 a5, .int .i64 a6, .int .i64 a7, .int .i64 a8, .int .i64 a9, .int .i64 a10] 38)).cell? ⟨w.heap.size, o, none⟩ := fun o => (((Kp.refl _ _).alloc ob).trans k).cell (p := ⟨w.heap.size, o, none⟩) (by simp) (fun h => h)
  refine ⟨⟨?_, ?_, ?_, ?_, ?_, ?_, ?_, ?_, ?_, ?_, ?_⟩, by have := k.size; simp at this; omega⟩ <;> (rw [h]; simp [go_sem])
set_option maxRecDepth 100000 in
set_option maxHeartbeats 4000000 in
theorem settled_any (lv : Value) (l : List Int) (a0 a1 a2 a3 a4 a5 a6 a7 a8 a9 a10 : Int) (w : World) (h : IntsR w lv l) (hl : l.length ≤ 100000) :
    Calls Tryz.prog 147 #[lv, .agg #[.int .i64 a0, .int .i64 a1, .int .i64 a2, .int .i64 a3, .int .i64 a4, .int .i64 a5, .int .i64 a6, .int .i64 a7, .int .i64 a8, .int .i64 a9, .int .i64 a10]] w (SettledPost w) := by
  have H : Hid (IntsR w lv l) := h
  have HP : Hid (∀ W, Nw w W → ∀ x y z : Int, Calls Tryz.prog 191 #[lv, .agg #[.int .i64 x, .int .i64 y, .int .i64 z]] W (PlacedPost W)) := fun W k x y z => placed_any lv l x y z W (h.nw k) hl
  clear h
  have T0 := t11_at (w := w) (a0 := a0) (a1 := a1) (a2 := a2) (a3 := a3) (a4 := a4) (a5 := a5) (a6 := a6) (a7 := a7) (a8 := a8) (a9 := a9) (a10 := a10) (ob := .cells #[.int .i64 0, .int .i64 0, .int .i64 0, .int .i64 0, .int .i64 0, .int .i64 0, .int .i64 0, .int .i64 0, .int .i64 0, .int .i64 0, .int .i64 0] 38) (Kp.refl _ _)
  have KB : Hid (Nw w ((w.alloc (.cells #[.int .i64 a0, .int .i64 a1, .int .i64 a2, .int .i64 a3, .int .i64 a4, .int .i64 a5, .int .i64 a6, .int .i64 a7, .int .i64 a8, .int .i64 a9, .int .i64 a10] 38)).alloc (.cells #[.int .i64 0, .int .i64 0, .int .i64 0, .int .i64 0, .int .i64 0, .int .i64 0, .int .i64 0, .int .i64 0, .int .i64 0, .int .i64 0, .int .i64 0] 38))) := ((Kp.refl _ w).alloc _).alloc _
  have HTZ : ∀ o, o < 11 → ∃ v, ((w.alloc (.cells #[.int .i64 a0, .int .i64 a1, .int .i64 a2, .int .i64 a3, .int .i64 a4, .int .i64 a5, .int .i64 a6, .int .i64 a7, .int .i64 a8, .int .i64 a9, .int .i64 a10] 38)).alloc (.cells #[.int .i64 0, .int .i64 0, .int .i64 0, .int .i64 0, .int .i64 0, .int .i64 0, .int .i64 0, .int .i64 0, .int .i64 0, .int .i64 0, .int .i64 0] 38)).cell? ⟨w.heap.size + 1, o, none⟩ = some v := by
    intro o ho
    have : o = 0 ∨ o = 1 ∨ o = 2 ∨ o = 3 ∨ o = 4 ∨ o = 5 ∨ o = 6 ∨ o = 7 ∨ o = 8 ∨ o = 9 ∨ o = 10 := by omega
    rcases this with e | e | e | e | e | e | e | e | e | e | e <;> subst e <;> exact ⟨.int .i64 0, by simp [go_sem]⟩
  have HTF : ∀ o, ((w.alloc (.cells #[.int .i64 a0, .int .i64 a1, .int .i64 a2, .int .i64 a3, .int .i64 a4, .int .i64 a5, .int .i64 a6, .int .i64 a7, .int .i64 a8, .int .i64 a9, .int .i64 a10] 38)).alloc (.cells #[.int .i64 0, .int .i64 0, .int .i64 0, .int .i64 0, .int .i64 0, .int .i64 0, .int .i64 0, .int .i64 0, .int .i64 0, .int .i64 0, .int .i64 0] 38)).frozen? ⟨w.heap.size + 1, o, none⟩ = false := by intro o; simp [go_sem]
  go_enter Tryz.func147, Tryz.ntmps147
  go_upto_region 1 with fail
  have hsz0 : ((w.alloc (.cells #[.int .i64 a0, .int .i64 a1, .int .i64 a2, .int .i64 a3, .int .i64 a4, .int .i64 a5, .int .i64 a6, .int .i64 a7, .int .i64 a8, .int .i64 a9, .int .i64 a10] 38)).alloc (.cells #[.int .i64 0, .int .i64 0, .int .i64 0, .int .i64 0, .int .i64 0, .int .i64 0, .int .i64 0, .int .i64 0, .int .i64 0, .int .i64 0, .int .i64 0] 38)).heap.size = w.heap.size + 2 := by simp
  generalize ((w.alloc (.cells #[.int .i64 a0, .int .i64 a1, .int .i64 a2, .int .i64 a3, .int .i64 a4, .int .i64 a5, .int .i64 a6, .int .i64 a7, .int .i64 a8, .int .i64 a9, .int .i64 a10] 38)).alloc (.cells #[.int .i64 0, .int .i64 0, .int .i64 0, .int .i64 0, .int .i64 0, .int .i64 0, .int .i64 0, .int .i64 0, .int .i64 0, .int .i64 0, .int .i64 0] 38)) = W0 at *
  have HT0 : Hid (TstAt' W0 w.heap.size a0 a1 a2 a3 a4 a5 a6 a7 a8 a9 a10) := T0.1
  have HZ0 : Hid (∀ o, o < 11 → ∃ v, W0.cell? ⟨w.heap.size + 1, o, none⟩ = some v) := HTZ
  have HF0 : Hid (∀ o, W0.frozen? ⟨w.heap.size + 1, o, none⟩ = false) := HTF
  have HSZ : Hid (W0.heap.size = w.heap.size + 2) := hsz0
  obtain ⟨x0, x1, x2, x3, x4, x5, x6, x7, x8, x9, x10⟩ := T0.1
  clear T0 HTZ HTF hsz0
  go_wp2_with fail
  refine (HP.out W0 KB.out a0 a1 a2).mono ?_
  rintro e w1 ⟨⟨b0, b1, b2⟩, rfl, k1⟩
  have K1 : Hid (Nw W0 w1) := k1
  have hs1 : w.heap.size + 2 ≤ w1.heap.size := by have := HSZ.out; have := k1.size; omega
  clear x0 x1 x2 x3 x4 x5 x6 x7 x8 x9 x10 k1
  obtain ⟨x0, x1, x2, x3, x4, x5, x6, x7, x8, x9, x10⟩ := HT0.out.nw (by have := HSZ.out; omega) K1.out
  have hq1 : ¬ w.heap.size = w1.heap.size := by omega
  have hp1 : ¬ w1.heap.size = w.heap.size := by omega
  have hr1 : w.heap.size < w1.heap.size := by omega
  go_wp2_with fail
  refine (HP.out _ ((KB.out.trans K1.out).alloc _) a4 a5 a6).mono ?_
  rintro e w2 ⟨⟨d0, d1, d2⟩, rfl, k2⟩
  obtain ⟨y0, y1, y2, yl⟩ := c3_at (w := w) rfl k2
  have K2 : Hid (Nw W0 w2) := (K1.out.alloc _).trans k2
  clear x0 x1 x2 x3 x4 x5 x6 x7 x8 x9 x10 k2
  obtain ⟨x0, x1, x2, x3, x4, x5, x6, x7, x8, x9, x10⟩ := HT0.out.nw (by have := HSZ.out; omega) K2.out
  have hq2 : ¬ w.heap.size = w2.heap.size := by omega
  have hq3 : ¬ w1.heap.size = w2.heap.size := by omega
  have hp2 : ¬ w2.heap.size = w.heap.size := by omega
  have hr2 : w.heap.size < w2.heap.size := by omega
  go_wp2_with fail
  refine (HP.out _ ((KB.out.trans K2.out).alloc _) a8 a9 a10).mono ?_
  rintro e w3 ⟨⟨f0, f1, f2⟩, rfl, k3⟩
  obtain ⟨z0, z1, z2, zl⟩ := c3_at (w := w) rfl k3
  have K3 : Hid (Nw W0 w3) := (K2.out.alloc _).trans k3
  have k23 : Nw w2 w3 := ((Kp.refl _ _).alloc _).trans k3
  have v0 := (k23.cell (p := ⟨w1.heap.size, 0, none⟩) yl (fun h => h)).trans y0
  have v1 := (k23.cell (p := ⟨w1.heap.size, 1, none⟩) yl (fun h => h)).trans y1
  have v2 := (k23.cell (p := ⟨w1.heap.size, 2, none⟩) yl (fun h => h)).trans y2
  clear x0 x1 x2 x3 x4 x5 x6 x7 x8 x9 x10 k3 y0 y1 y2 k23
  obtain ⟨x0, x1, x2, x3, x4, x5, x6, x7, x8, x9, x10⟩ := HT0.out.nw (by have := HSZ.out; omega) K3.out
  have hs3 := K3.out.size
  have hs4 := HSZ.out
  have hq4 : ¬ w.heap.size = w3.heap.size := by omega
  have hq5 : ¬ w1.heap.size = w3.heap.size := by omega
  have hq6 : ¬ w2.heap.size = w3.heap.size := by omega
  have hq7 : ¬ w.heap.size + 1 = w3.heap.size := by omega
  have hr3 : w.heap.size < w3.heap.size := by omega
  have hr4 : w1.heap.size < w3.heap.size := by omega
  have hr5 : w2.heap.size < w3.heap.size := by omega
  have HTH : Hid ((w3.alloc (.cells #[.int .i64 f0, .int .i64 f1, .int .i64 f2] 36)).there (w.heap.size + 1) 0 (c11 b0 b1 b2 a3 d0 d1 d2 a7 f0 f1 f2).toArray.size) := by
    intro j hj
    have hj' : j < 11 := by simpa [c11] using hj
    rw [Nat.zero_add]
    have kk : Nw W0 (w3.alloc (.cells #[.int .i64 f0, .int .i64 f1, .int .i64 f2] 36)) := K3.out.alloc _
    obtain ⟨v, hv⟩ := HZ0.out j hj'
    refine ⟨?_, ?_⟩
    · rw [kk.cell (p := ⟨w.heap.size + 1, j, none⟩) (by simp only; omega) (fun h => h), hv]; rfl
    · rw [kk.frozen (p := ⟨w.heap.size + 1, j, none⟩) (by simp only; omega) (fun h => h)]; exact HF0.out j
  obtain ⟨dd, hu, hd⟩ := Option.map_eq_some_iff.1 Tryz.row38
  have HU : Hid (Tryz.prog.underlying 38 = some dd) := hu
  have HD : Hid (dd.isRow = true) := hd
  clear hu hd hs3 hs4
  go_wp2_with (first
    | (with_reducible (show Go.wpList _ _ _ ({ dst := _, op := Op.store 38 _ _, type := _, pos := _, after := _, guard := _ } :: _) _ _); refine wpList_store_mid rfl 38 _ _ rfl (w.heap.size + 1) 0 (c11 b0 b1 b2 a3 d0 d1 d2 a7 f0 f1 f2).toArray rfl rfl HTH.out (by simpa using c11_size _ _ _ _ _ _ _ _ _ _ _) (all_oneCell_toArray (c11_one _ _ _ _ _ _ _ _ _ _ _)) ?_)
    | fail)
  refine bodyPost_ret (v := .agg (c11 b0 b1 b2 a3 d0 d1 d2 a7 f0 f1 f2).toArray) (results_cell Tryz.results147 _ _ _ ⟨w.heap.size + 1, 0, none⟩ rfl _ (run_loadVar_mid _ (w.heap.size + 1) 0 38 (c11 b0 b1 b2 a3 d0 d1 d2 a7 f0 f1 f2) dd (by simpa using World.rangeAt_setCells_same (w3.alloc (.cells #[.int .i64 f0, .int .i64 f1, .int .i64 f2] 36)) (w.heap.size + 1) 0 (c11 b0 b1 b2 a3 d0 d1 d2 a7 f0 f1 f2) (by simpa using HTH.out)) HU.out HD.out (c11_size _ _ _ _ _ _ _ _ _ _ _))) rfl ?_
  exact ⟨b0, b1, b2, a3, d0, d1, d2, a7, f0, f1, f2, rfl, nw_setCells (w.heap.size + 1) (Nat.le_succ _) ((KB.out.trans K3.out).alloc _) _ _⟩
end Go.Proofs.YtcboiapggnmpfaaGreat
