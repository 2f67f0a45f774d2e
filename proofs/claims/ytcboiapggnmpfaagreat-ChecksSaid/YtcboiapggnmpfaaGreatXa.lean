/- Walks: spotterref: the places behind a point; a term's and a test's names turned into places. -/
import Derived.Test.YtcboiapggnmpfaaGreatGp
import Derived.Test.YtcboiapggnmpfaaGreatQj
import Derived.Test.YtcboiapggnmpfaaGreatCd
import Derived.Deep.DeepCutAuto
import Derived.Test.YtcboiapggnmpfaaGreatQk
namespace Go.Proofs.YtcboiapggnmpfaaGreat
open Go.RowKit
set_option linter.unusedSimpArgs false
set_option linter.unusedVariables false

def PlacedPost (w : World) (e : Ending) (w' : World) : Prop := ∃ t : Tm, e = .returned (.agg #[.int .i64 t.of, .int .i64 t.field, .int .i64 t.num]) ∧ Nw w w'
/-- A list of ints that is only read. -/
structure IntsR (w : World) (v : Value) (l : List Int) : Prop where
  len : ∃ p c, v = .slice p l.length c
  cell : ∀ (i : Nat) (x : Int), l[i]? = some x → ∃ g c, v = .slice (some ⟨g, 0, none⟩) l.length c ∧ g < w.heap.size ∧ w.cell? ⟨g, i, none⟩ = some (.int .i64 x)
theorem IntsR.of {w : World} {base : Nat} {v : Value} {l : List Int} (h : w.ownsRow base 3 1 v l.length (l.map (Value.int .i64))) : IntsR w v l := by
  refine ⟨owns_lenL h, ?_⟩
  intro i x hx
  have hj : 0 < l.length := by have := (List.getElem?_eq_some_iff.1 hx).1; omega
  obtain ⟨g, c, rfl, _, hg⟩ := h.form hj
  exact ⟨g, c, rfl, hg, owns_cell h i (by rw [List.getElem?_map, hx]; rfl)⟩
theorem IntsR.kp {S : Nat → Prop} {w w' : World} {v : Value} {l : List Int} (h : IntsR w v l) (k : Kp S w w') (hs : ∀ g, v.ownBlock = some g → ¬ S g) : IntsR w' v l := by
  refine ⟨h.len, ?_⟩
  intro i x hx
  obtain ⟨g, c, e, hg, d⟩ := h.cell i x hx
  exact ⟨g, c, e, Nat.lt_of_lt_of_le hg k.size, (k.cell (p := ⟨g, i, none⟩) hg (hs g (by rw [e]; rfl))).trans d⟩
theorem IntsR.nw {w w' : World} {v : Value} {l : List Int} (h : IntsR w v l) (k : Nw w w') : IntsR w' v l := h.kp k (fun _ _ h => h)
theorem nw_set3 {w W : World} (h : Nw w W) (a b c : Value) : Nw w (((W.setCell ⟨w.heap.size + 1, 0, none⟩ a).setCell ⟨w.heap.size + 1, 1, none⟩ b).setCell ⟨w.heap.size + 1, 2, none⟩ c) :=
  ((h.setCell (p := ⟨w.heap.size + 1, 0, none⟩) (Or.inl (Nat.le_succ _)) _).setCell (p := ⟨w.heap.size + 1, 1, none⟩) (Or.inl (Nat.le_succ _)) _).setCell (p := ⟨w.heap.size + 1, 2, none⟩) (Or.inl (Nat.le_succ _)) _
set_option maxRecDepth 100000 in
set_option maxHeartbeats 2000000 in
theorem placed_any (lv : Value) (l : List Int) (of field num : Int) (w : World) (h : IntsR w lv l) (hl : l.length ≤ 100000) :
    Calls Tryz.prog 191 #[lv, .agg #[.int .i64 of, .int .i64 field, .int .i64 num]] w (PlacedPost w) := by
  have H : Hid (IntsR w lv l) := h
  obtain ⟨p, c, rfl⟩ := h.len
  clear h
  by_cases h2 : of < 2
  · go_enter Tryz.func191, Tryz.ntmps191
    go_wp2
    refine bodyPost_ret (by simp [results, Tryz.results191, go_sem]; rfl) rfl ?_
    exact ⟨⟨of, field, num⟩, rfl, ((Kp.refl _ w).alloc _).alloc _⟩
  · have h2' : decide (of < 2) = false := by simp; omega
    go_enter Tryz.func191, Tryz.ntmps191
    go_wp2
    go_loopg [5] l.length (fun m v5 wr => ∃ i j : Nat, v5 = .int .i64 i ∧ m = l.length - i ∧ i ≤ l.length ∧ wr = ((w.alloc (.cells #[.int .i64 of, .int .i64 field, .int .i64 num] 36)).alloc (.cells #[.int .i64 0, .int .i64 0, .int .i64 0] 36)).drewN j)
    case atStart => exact ⟨0, 0, rfl, rfl, by omega, rfl⟩
    case round =>
      obtain ⟨i, jd, rfl, hm, hi, rfl⟩ := hrel
      by_cases hi' : i < l.length
      · obtain ⟨x, hx⟩ : ∃ x, l[i]? = some x := ⟨l[i], by simp [hi']⟩
        obtain ⟨g, c', e', hg, d0⟩ := H.out.cell i x hx
        simp only [Value.slice.injEq, true_and] at e'
        obtain ⟨rfl, rfl⟩ := e'
        have hg1 : ¬ g = w.heap.size := by omega
        have hg2 : ¬ g = w.heap.size + 1 := by omega
        have hii : (i : Int) < l.length := by omega
        clear hx
        generalize hof : IntKind.i64.wrap (of - 2) = ow
        by_cases hxe : x = ow
        · have hxe' : (x == ow) = true := by simp [hxe]
          have HW : Hid (IntKind.i64.wrap (of - 2) = ow) := hof
          clear hxe
          go_wp2
          go_quiet (fail)
          go_wp2
          refine bodyPost_ret (by simp [results, Tryz.results191, go_sem]; rfl) rfl ?_
          exact ⟨⟨2 + i, field, 0⟩, rfl, nw_set3 ((((Kp.refl _ w).alloc _).alloc _).drewN _) _ _ _⟩
        · have hxe' : (x == ow) = false := by simp [hxe]
          clear hxe
          go_wp2
          go_quiet (fail)
          go_wp2
          go_roundg (l.length - (i + 1))
          case measure => omega
          case rel => exact ⟨i + 1, _, by simp, rfl, by omega, rfl⟩
      · go_wp2
        refine bodyPost_ret (by simp [results, Tryz.results191, go_sem]; rfl) rfl ?_
        exact ⟨⟨of, field, num⟩, rfl, nw_set3 ((((Kp.refl _ w).alloc _).alloc _).drewN _) _ _ _⟩
def SettledPost (w : World) (e : Ending) (w' : World) : Prop := ∃ a0 a1 a2 a3 a4 a5 a6 a7 a8 a9 a10 : Int, e = .returned (.agg (c11 a0 a1 a2 a3 a4 a5 a6 a7 a8 a9 a10).toArray) ∧ Nw w w'
theorem c3_at {w w1 w2 : World} {B : Nat} {a0 a1 a2 : Int} (hB : B = w1.heap.size) (k : Nw (w1.alloc (.cells #[.int .i64 a0, .int .i64 a1, .int .i64 a2] 36)) w2) : w2.cell? ⟨B, 0, none⟩ = some (.int .i64 a0) ∧ w2.cell? ⟨B, 1, none⟩ = some (.int .i64 a1) ∧ w2.cell? ⟨B, 2, none⟩ = some (.int .i64 a2) ∧ B < w2.heap.size := by
  subst hB
  refine ⟨?_, ?_, ?_, ?_⟩
  · rw [k.cell (p := ⟨w1.heap.size, 0, none⟩) (by simp) (fun h => h)]; simp [go_sem]
  · rw [k.cell (p := ⟨w1.heap.size, 1, none⟩) (by simp) (fun h => h)]; simp [go_sem]
  · rw [k.cell (p := ⟨w1.heap.size, 2, none⟩) (by simp) (fun h => h)]; simp [go_sem]
  · have := k.size; simp at this; omega
structure TstAt' (w : World) (g : Nat) (a0 a1 a2 a3 a4 a5 a6 a7 a8 a9 a10 : Int) : Prop where
  c0 : w.cell? ⟨g, 0, none⟩ = some (.int .i64 a0)
  c1 : w.cell? ⟨g, 1, none⟩ = some (.int .i64 a1)
  c2 : w.cell? ⟨g, 2, none⟩ = some (.int .i64 a2)
  c3 : w.cell? ⟨g, 3, none⟩ = some (.int .i64 a3)
  c4 : w.cell? ⟨g, 4, none⟩ = some (.int .i64 a4)
  c5 : w.cell? ⟨g, 5, none⟩ = some (.int .i64 a5)
  c6 : w.cell? ⟨g, 6, none⟩ = some (.int .i64 a6)
  c7 : w.cell? ⟨g, 7, none⟩ = some (.int .i64 a7)
  c8 : w.cell? ⟨g, 8, none⟩ = some (.int .i64 a8)
  c9 : w.cell? ⟨g, 9, none⟩ = some (.int .i64 a9)
  c10 : w.cell? ⟨g, 10, none⟩ = some (.int .i64 a10)
theorem TstAt'.nw {w w' : World} {g : Nat} {a0 a1 a2 a3 a4 a5 a6 a7 a8 a9 a10 : Int} (h : TstAt' w g a0 a1 a2 a3 a4 a5 a6 a7 a8 a9 a10) (hg : g < w.heap.size) (k : Nw w w') : TstAt' w' g a0 a1 a2 a3 a4 a5 a6 a7 a8 a9 a10 := by
  have c : ∀ o, w'.cell? ⟨g, o, none⟩ = w.cell? ⟨g, o, none⟩ := fun o => k.cell (p := ⟨g, o, none⟩) hg (fun h => h)
  exact ⟨(c 0).trans h.c0, (c 1).trans h.c1, (c 2).trans h.c2, (c 3).trans h.c3, (c 4).trans h.c4, (c 5).trans h.c5, (c 6).trans h.c6, (c 7).trans h.c7, (c 8).trans h.c8, (c 9).trans h.c9, (c 10).trans h.c10⟩
theorem t11_at {w w2 : World} {a0 a1 a2 a3 a4 a5 a6 a7 a8 a9 a10 : Int} {ob : Obj} (k : Nw ((w.alloc (.cells #[.int .i64 a0, .int .i64 a1, .int .i64 a2, .int .i64 a3, .int .i64 a4, .int .i64 a5, .int .i64 a6, .int .i64 a7, .int .i64 a8, .int .i64 a9, .int .i64 a10] 38)).alloc ob) w2) : TstAt' w2 w.heap.size a0 a1 a2 a3 a4 a5 a6 a7 a8 a9 a10 ∧ w.heap.size < w2.heap.size := by
  have h : ∀ o, w2.cell? ⟨w.heap.size, o, none⟩ = (w.alloc (.cells #[.int .i64 a0, .int .i64 a1, .int .i64 a2, .int .i64 a3, .int .i64 a4, .int .i64 a5, .int .i64 a6, .int .i64 a7, .int .i64 a8, .int .i64 a9, .int .i64 a10] 38)).cell? ⟨w.heap.size, o, none⟩ := fun o => (((Kp.refl _ _).alloc ob).trans k).cell (p := ⟨w.heap.size, o, none⟩) (by simp) (fun h => h)
  refine ⟨⟨?_, ?_, ?_, ?_, ?_, ?_, ?_, ?_, ?_, ?_, ?_⟩, by have := k.size; simp at this; omega⟩ <;> (rw [h]; simp [go_sem])
set_option maxRecDepth 100000 in
set_option maxHeartbeats 4000000 in
theorem settled_any (lv : Value) (l : List Int) (a0 a1 a2 a3 a4 a5 a6 a7 a8 a9 a10 : Int) (w : World) (h : IntsR w lv l) (hl : l.length ≤ 100000) :
    Calls Tryz.prog 147 #[lv, .agg #[.int .i64 a0, .int .i64 a1, .int .i64 a2, .int .i64 a3, .int .i64 a4, .int .i64 a5, .int .i64 a6, .int .i64 a7, .int .i64 a8, .int .i64 a9, .int .i64 a10]] w (SettledPost w) := by
  have H : Hid (IntsR w lv l) := h
  have HP : Hid (∀ W, Nw w W → ∀ x y z : Int, Calls Tryz.prog 191 #[lv, .agg #[.int .i64 x, .int .i64 y, .int .i64 z]] W (PlacedPost W)) := fun W k x y z => placed_any lv l x y z W (h.nw k) hl
  clear h
  have T0 := t11_at (w := w) (a0 := a0) (a1 := a1) (a2 := a2) (a3 := a3) (a4 := a4) (a5 := a5) (a6 := a6) (a7 := a7) (a8 := a8) (a9 := a9) (a10 := a10) (ob := .cells #[.int .i64 0, .int .i64 0, .int .i64 0, .int .i64 0, .int .i64 0, .int .i64 0, .int .i64 0, .int .i64 0, .int .i64 0, .int .i64 0, .int .i64 0] 38) (Kp.refl _ _)
  have KB : Hid (Nw w ((w.alloc (.cells #[.int .i64 a0, .int .i64 a1, .int .i64 a2, .int .i64 a3, .int .i64 a4, .int .i64 a5, .int .i64 a6, .int .i64 a7, .int .i64 a8, .int .i64 a9, .int .i64 a10] 38)).alloc (.cells #[.int .i64 0, .int .i64 0, .int .i64 0, .int .i64 0, .int .i64 0, .int .i64 0, .int .i64 0, .int .i64 0, .int .i64 0, .int .i64 0, .int .i64 0] 38))) := ((Kp.refl _ w).alloc _).alloc _
  have HTZ : ∀ o, o < 11 → ∃ v, ((w.alloc (.cells #[.int .i64 a0, .int .i64 a1, .int .i64 a2, .int .i64 a3, .int .i64 a4, .int .i64 a5, .int .i64 a6, .int .i64 a7, .int .i64 a8, .int .i64 a9, .int .i64 a10] 38)).alloc (.cells #[.int .i64 0, .int .i64 0, .int .i64 0, .int .i64 0, .int .i64 0, .int .i64 0, .int .i64 0, .int .i64 0, .int .i64 0, .int .i64 0, .int .i64 0] 38)).cell? ⟨w.heap.size + 1, o, none⟩ = some v := by
    intro o ho
    have : o = 0 ∨ o = 1 ∨ o = 2 ∨ o = 3 ∨ o = 4 ∨ o = 5 ∨ o = 6 ∨ o = 7 ∨ o = 8 ∨ o = 9 ∨ o = 10 := by omega
    rcases this with e | e | e | e | e | e | e | e | e | e | e <;> subst e <;> exact ⟨.int .i64 0, by simp [go_sem]⟩
  have HTF : ∀ o, ((w.alloc (.cells #[.int .i64 a0, .int .i64 a1, .int .i64 a2, .int .i64 a3, .int .i64 a4, .int .i64 a5, .int .i64 a6, .int .i64 a7, .int .i64 a8, .int .i64 a9, .int .i64 a10] 38)).alloc (.cells #[.int .i64 0, .int .i64 0, .int .i64 0, .int .i64 0, .int .i64 0, .int .i64 0, .int .i64 0, .int .i64 0, .int .i64 0, .int .i64 0, .int .i64 0] 38)).frozen? ⟨w.heap.size + 1, o, none⟩ = false := by intro o; simp [go_sem]
  go_enter Tryz.func147, Tryz.ntmps147
  go_upto_region 1 with fail
  have hsz0 : ((w.alloc (.cells #[.int .i64 a0, .int .i64 a1, .int .i64 a2, .int .i64 a3, .int .i64 a4, .int .i64 a5, .int .i64 a6, .int .i64 a7, .int .i64 a8, .int .i64 a9, .int .i64 a10] 38)).alloc (.cells #[.int .i64 0, .int .i64 0, .int .i64 0, .int .i64 0, .int .i64 0, .int .i64 0, .int .i64 0, .int .i64 0, .int .i64 0, .int .i64 0, .int .i64 0] 38)).heap.size = w.heap.size + 2 := by simp
  generalize ((w.alloc (.cells #[.int .i64 a0, .int .i64 a1, .int .i64 a2, .int .i64 a3, .int .i64 a4, .int .i64 a5, .int .i64 a6, .int .i64 a7, .int .i64 a8, .int .i64 a9, .int .i64 a10] 38)).alloc (.cells #[.int .i64 0, .int .i64 0, .int .i64 0, .int .i64 0, .int .i64 0, .int .i64 0, .int .i64 0, .int .i64 0, .int .i64 0, .int .i64 0, .int .i64 0] 38)) = W0 at *
  have HT0 : Hid (TstAt' W0 w.heap.size a0 a1 a2 a3 a4 a5 a6 a7 a8 a9 a10) := T0.1
  have HZ0 : Hid (∀ o, o < 11 → ∃ v, W0.cell? ⟨w.heap.size + 1, o, none⟩ = some v) := HTZ
  have HF0 : Hid (∀ o, W0.frozen? ⟨w.heap.size + 1, o, none⟩ = false) := HTF
  have HSZ : Hid (W0.heap.size = w.heap.size + 2) := hsz0
  obtain ⟨x0, x1, x2, x3, x4, x5, x6, x7, x8, x9, x10⟩ := T0.1
  clear T0 HTZ HTF hsz0
  go_wp2_with fail
  refine (HP.out W0 KB.out a0 a1 a2).mono ?_
  rintro e w1 ⟨⟨b0, b1, b2⟩, rfl, k1⟩
  have K1 : Hid (Nw W0 w1) := k1
  have hs1 : w.heap.size + 2 ≤ w1.heap.size := by have := HSZ.out; have := k1.size; omega
  clear x0 x1 x2 x3 x4 x5 x6 x7 x8 x9 x10 k1
  obtain ⟨x0, x1, x2, x3, x4, x5, x6, x7, x8, x9, x10⟩ := HT0.out.nw (by have := HSZ.out; omega) K1.out
  have hq1 : ¬ w.heap.size = w1.heap.size := by omega
  have hp1 : ¬ w1.heap.size = w.heap.size := by omega
  have hr1 : w.heap.size < w1.heap.size := by omega
  go_wp2_with fail
  refine (HP.out _ ((KB.out.trans K1.out).alloc _) a4 a5 a6).mono ?_
  rintro e w2 ⟨⟨d0, d1, d2⟩, rfl, k2⟩
  obtain ⟨y0, y1, y2, yl⟩ := c3_at (w := w) rfl k2
  have K2 : Hid (Nw W0 w2) := (K1.out.alloc _).trans k2
  clear x0 x1 x2 x3 x4 x5 x6 x7 x8 x9 x10 k2
  obtain ⟨x0, x1, x2, x3, x4, x5, x6, x7, x8, x9, x10⟩ := HT0.out.nw (by have := HSZ.out; omega) K2.out
  have hq2 : ¬ w.heap.size = w2.heap.size := by omega
  have hq3 : ¬ w1.heap.size = w2.heap.size := by omega
  have hp2 : ¬ w2.heap.size = w.heap.size := by omega
  have hr2 : w.heap.size < w2.heap.size := by omega
  go_wp2_with fail
  refine (HP.out _ ((KB.out.trans K2.out).alloc _) a8 a9 a10).mono ?_
  rintro e w3 ⟨⟨f0, f1, f2⟩, rfl, k3⟩
  obtain ⟨z0, z1, z2, zl⟩ := c3_at (w := w) rfl k3
  have K3 : Hid (Nw W0 w3) := (K2.out.alloc _).trans k3
  have k23 : Nw w2 w3 := ((Kp.refl _ _).alloc _).trans k3
  have v0 := (k23.cell (p := ⟨w1.heap.size, 0, none⟩) yl (fun h => h)).trans y0
  have v1 := (k23.cell (p := ⟨w1.heap.size, 1, none⟩) yl (fun h => h)).trans y1
  have v2 := (k23.cell (p := ⟨w1.heap.size, 2, none⟩) yl (fun h => h)).trans y2
  clear x0 x1 x2 x3 x4 x5 x6 x7 x8 x9 x10 k3 y0 y1 y2 k23
  obtain ⟨x0, x1, x2, x3, x4, x5, x6, x7, x8, x9, x10⟩ := HT0.out.nw (by have := HSZ.out; omega) K3.out
  have hs3 := K3.out.size
  have hs4 := HSZ.out
  have hq4 : ¬ w.heap.size = w3.heap.size := by omega
  have hq5 : ¬ w1.heap.size = w3.heap.size := by omega
  have hq6 : ¬ w2.heap.size = w3.heap.size := by omega
  have hq7 : ¬ w.heap.size + 1 = w3.heap.size := by omega
  have hr3 : w.heap.size < w3.heap.size := by omega
  have hr4 : w1.heap.size < w3.heap.size := by omega
  have hr5 : w2.heap.size < w3.heap.size := by omega
  have HTH : Hid ((w3.alloc (.cells #[.int .i64 f0, .int .i64 f1, .int .i64 f2] 36)).there (w.heap.size + 1) 0 (c11 b0 b1 b2 a3 d0 d1 d2 a7 f0 f1 f2).toArray.size) := by
    intro j hj
    have hj' : j < 11 := by simpa [c11] using hj
    rw [Nat.zero_add]
    have kk : Nw W0 (w3.alloc (.cells #[.int .i64 f0, .int .i64 f1, .int .i64 f2] 36)) := K3.out.alloc _
    obtain ⟨v, hv⟩ := HZ0.out j hj'
    refine ⟨?_, ?_⟩
    · rw [kk.cell (p := ⟨w.heap.size + 1, j, none⟩) (by simp only; omega) (fun h => h), hv]; rfl
    · rw [kk.frozen (p := ⟨w.heap.size + 1, j, none⟩) (by simp only; omega) (fun h => h)]; exact HF0.out j
  obtain ⟨dd, hu, hd⟩ := Option.map_eq_some_iff.1 Tryz.row38
  have HU : Hid (Tryz.prog.underlying 38 = some dd) := hu
  have HD : Hid (dd.isRow = true) := hd
  clear hu hd hs3 hs4
  go_wp2_with (first
    | (with_reducible (show Go.wpList _ _ _ ({ dst := _, op := Op.store 38 _ _, type := _, pos := _, after := _, guard := _ } :: _) _ _); refine wpList_store_mid rfl 38 _ _ rfl (w.heap.size + 1) 0 (c11 b0 b1 b2 a3 d0 d1 d2 a7 f0 f1 f2).toArray rfl rfl HTH.out (by simpa using c11_size _ _ _ _ _ _ _ _ _ _ _) (all_oneCell_toArray (c11_one _ _ _ _ _ _ _ _ _ _ _)) ?_)
    | fail)
  refine bodyPost_ret (v := .agg (c11 b0 b1 b2 a3 d0 d1 d2 a7 f0 f1 f2).toArray) (results_cell Tryz.results147 _ _ _ ⟨w.heap.size + 1, 0, none⟩ rfl _ (run_loadVar_mid _ (w.heap.size + 1) 0 38 (c11 b0 b1 b2 a3 d0 d1 d2 a7 f0 f1 f2) dd (by simpa using World.rangeAt_setCells_same (w3.alloc (.cells #[.int .i64 f0, .int .i64 f1, .int .i64 f2] 36)) (w.heap.size + 1) 0 (c11 b0 b1 b2 a3 d0 d1 d2 a7 f0 f1 f2) (by simpa using HTH.out)) HU.out HD.out (c11_size _ _ _ _ _ _ _ _ _ _ _))) rfl ?_
  exact ⟨b0, b1, b2, a3, d0, d1, d2, a7, f0, f1, f2, rfl, nw_setCells (w.heap.size + 1) (Nat.le_succ _) ((KB.out.trans K3.out).alloc _) _ _⟩
end Go.Proofs.YtcboiapggnmpfaaGreat

namespace Go.Proofs.YtcboiapggnmpfaaGreat
open Go.RowKit
set_option linter.unusedSimpArgs false
set_option linter.unusedVariables false

def BehindPost (w : World) (M : Nat) (e : Ending) (w' : World) : Prop := ∃ (v : Value) (l : List Int), e = .returned v ∧ w'.ownsRow w.heap.size 3 1 v l.length (l.map (Value.int .i64)) ∧ l.length ≤ M + 1 ∧ (∀ x ∈ l, 0 ≤ x ∧ x ≤ M) ∧ Nw w w'
/-- A list of ints that is gathered, beside a row of bools. -/
structure Gat (w wr : World) (v : Value) (l : List Int) (bs : List Bool) (M k : Nat) : Prop where
  own : wr.ownsRow (w.heap.size + 1) 3 1 v l.length (l.map (Value.int .i64))
  len : l.length ≤ k
  ok : ∀ x ∈ l, 0 ≤ x ∧ x ≤ M
  row : Row wr w.heap.size 4 (bs.map Value.bool)
  nw : Nw w wr
theorem Gat.next {w wr w' : World} {v : Value} {l : List Int} {bs : List Bool} {M k : Nat} (h : Gat w wr v l bs M k) (kk : Nw wr w') : Gat w w' v l bs M k :=
  ⟨owns_kp h.own kk (fun _ _ h => h), h.len, h.ok, h.row.kp kk (fun h => h), h.nw.trans kk⟩
theorem Gat.more {w wr w' : World} {v v' : Value} {l : List Int} {bs : List Bool} {M k : Nat} {x : Int} {ob : Obj} (h : Gat w wr v l bs M k) (hg : (wr.alloc ob).grownBy w' v.ownBlock) (ho : w'.ownsRow (w.heap.size + 1) 3 1 v' (l.length + 1) (l.map (Value.int .i64) ++ [.int .i64 x])) (hx : 0 ≤ x ∧ x ≤ M) : Gat w w' v' (l ++ [x]) bs M (k + 1) := by
  have hge : ∀ b, v.ownBlock = some b → w.heap.size + 1 ≤ b := fun b hb => (h.own.lt b hb).1
  have hlen := h.len
  refine ⟨?_, by simp; omega, ?_, (h.row.alloc ob).grown hg (fun e => by have := hge _ e.symm; omega), (h.nw.alloc _).grown hg (fun b hb => Or.inl (by have := hge b hb; omega))⟩
  · have e1 : (l ++ [x]).length = l.length + 1 := by simp
    have e2 : (l ++ [x]).map (Value.int .i64) = l.map (Value.int .i64) ++ [.int .i64 x] := by simp
    rw [e1, e2]; exact ho
  · intro y hy
    rcases List.mem_append.1 hy with hy | hy
    · exact h.ok y hy
    · simp at hy; subst hy; exact hx
theorem Gat.mono {w wr : World} {v : Value} {l : List Int} {bs : List Bool} {M k k' : Nat} (h : Gat w wr v l bs M k) (hk : k ≤ k') : Gat w wr v l bs M k' := ⟨h.own, Nat.le_trans h.len hk, h.ok, h.row, h.nw⟩
theorem owns_baseB {w : World} {base base' n size : Nat} {e : TypeId} {v : Value} {xs : List Value} (h : w.ownsRow base e size v n xs) (hb : base' ≤ base) : w.ownsRow base' e size v n xs := owns_baseP h hb
set_option maxRecDepth 100000 in
set_option maxHeartbeats 2000000 in
theorem behindG_any {w : World} {G n : Nat} {ev : Value} {sp : Option Addr} {M sc : Nat} {gi go : Nat} {es : List Ed} {Q : TP} {ps : List Pt} {ss : List (St × Value)} {root win : Int} (h : GQ w G n ev (.slice sp M sc) gi go es Q ps ss root win) (hM : M ≤ 1000) (src : Nat) (hs : src < n) :
    Calls Tryz.prog 92 #[.pointer (some ⟨G, 0, none⟩), .pointer (some ⟨Q.T, 0, none⟩), .int .i64 src] w (BehindPost w M) := by
  have H : Hid (GQ w G n ev (.slice sp M sc) gi go es Q ps ss root win) := h
  have HR := reachW h src hs false (-1) (by intro h; cases h)
  have HEE : Hid (∀ j : Int, ∃ (a b : Nat) (c : Int), edOf j es = ⟨a, b, c⟩ ∧ a < n ∧ b < n) := fun j => edOf_ok h.ok (by have := h.hgi; omega) j
  have hn := h.hn
  have hgo := h.hgo
  clear h
  obtain ⟨i3, hi3, hy0, hy1, hy2⟩ := info_parts Tryz.info3
  go_enter Tryz.func92, Tryz.ntmps92
  go_wp2_with fail
  refine HR.mono ?_
  rintro e w1 ⟨bs, rfl, hrow, hbl, k1⟩
  have R1 : Hid (Gat w w1 (.slice none 0 0) [] bs M 0) := ⟨World.ownsRow_nil _ _ _ _, by simp, (by intro x hx; cases hx), hrow, k1⟩
  have hl1 := hrow.lt
  clear hrow k1 HR
  go_wp2
  go_loopg [8, 9] M (fun m v8 v9 wr => ∃ (k : Nat) (l : List Int), v9 = .int .i64 k ∧ m = M - k ∧ k ≤ M ∧ Gat w wr v8 l bs M k)
  case atStart => exact ⟨0, [], rfl, rfl, by omega, R1.out⟩
  case round =>
    obtain ⟨k, l, rfl, hm, hk, hG⟩ := hrel
    have G1 : Hid (Gat w wr u8 l bs M k) := hG
    have c2 := (H.out.nw hG.nw).gr.c2
    have c4 := (H.out.nw hG.nw).gr.c4
    have hlr := hG.row.lt
    have hll := hG.len
    clear hG R1 hl1
    by_cases hk' : k < M
    · obtain ⟨a, b, c, he, ha, hb⟩ := HEE.out (k : Int)
      have HE : Hid (edOf (k : Int) es = ⟨a, b, c⟩) := he
      clear he
      go_wp2_with fail
      refine (edgeOf_any G ev es k wr (H.out.nw G1.out.nw).ge).mono ?_
      rintro e w2 ⟨rfl, k2⟩
      rw [HE.out]
      unfold edV
      have G2 : Hid (∀ ob, Gat w (w2.alloc ob) u8 l bs M k) := fun ob => (G1.out.next k2).next ((Kp.refl _ _).alloc ob)
      have hl2 : w.heap.size < w2.heap.size := Nat.lt_of_lt_of_le hlr k2.size
      obtain ⟨x, cx⟩ := row_bool (G1.out.next k2).row hbl ha
      have hq1 : ¬ w.heap.size = w2.heap.size := by omega
      have hq2 : ¬ w2.heap.size = w.heap.size := by omega
      clear k2 c2 c4 G1
      cases x with
      | false =>
        go_wp2
        go_roundg (M - (k + 1))
        case measure => omega
        case rel => exact ⟨k + 1, l, by simp, rfl, by omega, (G2.out _).mono (by omega)⟩
      | true =>
        go_wp2_with (at_builtin; refine wpList_append_lies _ rfl _ _ 73 rfl (w.heap.size + 1) 3 i3 (.int .i64 0) 1 8 Tryz.underlying73 hi3 hy0 hy1 hy2 rfl (by decide) _ _ _ rfl ((G2.out _).own.alloc _) ⟨w2.heap.size + 1, 0, none⟩ 1 1 [.int .i64 (k : Int)] rfl rfl ?hp1 ?hp2 (by decide) ?hp3 ?hp4 ?hp5 _ rfl ?_)
        case hp1 => exact news_snd w2 _ _ _
        case hp2 => intro u hu; simp at hu; subst hu; rfl
        case hp3 => unfold maxLen; omega
        case hp4 => omega
        case hp5 => simp; omega
        intro g cap w3 hown3 hgrow3 hat3 hlt3
        have G3 : Hid (Gat w w3 (.slice (some ⟨g, 0, none⟩) (l.length + 1) cap) (l ++ [(k : Int)]) bs M (k + 1)) := (G2.out _).more hgrow3 hown3 (by omega)
        clear hown3 hgrow3 hat3 G2
        go_wp2
        go_roundg (M - (k + 1))
        case measure => omega
        case rel => exact ⟨k + 1, l ++ [(k : Int)], by simp, rfl, by omega, G3.out⟩
    · obtain ⟨x, cx⟩ := row_bool G1.out.row hbl hgo
      have ek : k = M := by omega
      subst ek
      cases x with
      | false =>
        go_wp2
        go_ret
        exact ⟨_, l, rfl, owns_baseB G1.out.own (by omega), by omega, G1.out.ok, G1.out.nw⟩
      | true =>
        go_wp2_with (at_builtin; refine wpList_append_lies _ rfl _ _ 73 rfl (w.heap.size + 1) 3 i3 (.int .i64 0) 1 8 Tryz.underlying73 hi3 hy0 hy1 hy2 rfl (by decide) _ _ _ rfl (G1.out.own.alloc _) ⟨wr.heap.size, 0, none⟩ 1 1 [.int .i64 (k : Int)] rfl rfl ?hq1 ?hq2 (by decide) ?hq3 ?hq4 ?hq5 _ rfl ?_)
        case hq1 => exact news_one _ rfl _ _
        case hq2 => intro u hu; simp at hu; subst hu; rfl
        case hq3 => unfold maxLen; omega
        case hq4 => omega
        case hq5 => simp; omega
        intro g cap w3 hown3 hgrow3 hat3 hlt3
        have G3 : Hid (Gat w w3 (.slice (some ⟨g, 0, none⟩) (l.length + 1) cap) (l ++ [(k : Int)]) bs k (k + 1)) := G1.out.more hgrow3 hown3 (by omega)
        clear hown3 hgrow3 hat3 G1
        go_wp2
        go_ret
        have hg := G3.out
        have e1 : (l ++ [(k : Int)]).length = l.length + 1 := by simp
        exact ⟨_, l ++ [(k : Int)], rfl, owns_baseB hg.own (by omega), hg.len, hg.ok, hg.nw⟩
end Go.Proofs.YtcboiapggnmpfaaGreat

namespace Go.Proofs.YtcboiapggnmpfaaGreat
open Go.RowKit
set_option linter.unusedSimpArgs false
set_option linter.unusedVariables false

theorem oneCellsI (x : In) : ∀ u ∈ insC x, u.oneCell' = true := by
  intro u hu
  simp only [insC, List.mem_cons, List.not_mem_nil, or_false] at hu
  rcases hu with h | h | h | h | h | h | h | h | h | h | h | h | h | h <;> subst h <;> rfl
theorem codeC_snoc (l : List In) (x : In) : codeC (l ++ [x]) = codeC l ++ insC x := by simp [codeC]
/-- What chained leaves: n instructions more, in the same row or a new one. -/
def ChainPost (B : Nat) (v : Value) (l : List In) (n : Nat) (w : World) (e : Ending) (w' : World) : Prop :=
  ∃ (v' : Value) (l' : List In), e = .returned v' ∧ w'.ownsRow B 40 14 v' l'.length (codeC l') ∧ l'.length = l.length + n ∧ Kp (fun b => v.ownBlock = some b) w w' ∧ Own w v v'
/-- The list while it is chained. -/
structure Chn (w wr : World) (B : Nat) (v0 v : Value) (l : List In) (k m : Nat) : Prop where
  own : wr.ownsRow B 40 14 v l.length (codeC l)
  len : l.length = k + m
  kp : Kp (fun b => v0.ownBlock = some b) w wr
  ow : Own w v0 v
theorem Chn.more {w wr w' : World} {B : Nat} {v0 v v' : Value} {l : List In} {k m : Nat} {x : In} {o1 o2 : Obj} (h : Chn w wr B v0 v l k m) (hg : ((wr.alloc o1).alloc o2).grownBy w' v.ownBlock) (ho : w'.ownsRow B 40 14 v' (l.length + 1) (codeC l ++ insC x)) (hat : ∀ b, v'.ownBlock = some b → v.ownBlock = some b ∨ wr.heap.size ≤ b) : Chn w w' B v0 v' (l ++ [x]) k (m + 1) := by
  have hlen := h.len
  refine ⟨?_, by simp; omega, (((h.kp.alloc _).alloc _).grown hg ?_), h.ow.trans h.kp.size hat⟩
  · have e1 : (l ++ [x]).length = l.length + 1 := by simp
    rw [e1, codeC_snoc]; exact ho
  · intro b hb
    rcases h.ow b hb with e | e
    · exact Or.inr e
    · exact Or.inl e
set_option maxRecDepth 100000 in
set_option maxHeartbeats 4000000 in
theorem chained_any (B : Nat) (lv tv bv : Value) (l : List In) (t b : List Int) (w : World) (ho : w.ownsRow B 40 14 lv l.length (codeC l)) (hB : B ≤ w.heap.size) (ht : IntsR w tv t) (hb : IntsR w bv b) (ht1 : ∀ g, tv.ownBlock = some g → ¬ lv.ownBlock = some g) (hb1 : ∀ g, bv.ownBlock = some g → ¬ lv.ownBlock = some g) (hl : l.length + t.length ≤ 10000) (htl : t.length ≤ 1000) (hbl : b.length ≤ 1000) (hin : ∀ x ∈ t, 0 ≤ x ∧ x < b.length) :
    Calls Tryz.prog 95 #[lv, tv, bv] w (ChainPost B lv l t.length w) := by
  have HT : Hid (IntsR w tv t) := ht
  have HB : Hid (IntsR w bv b) := hb
  have HT1 : Hid (∀ g, tv.ownBlock = some g → ¬ lv.ownBlock = some g) := ht1
  have HB1 : Hid (∀ g, bv.ownBlock = some g → ¬ lv.ownBlock = some g) := hb1
  have HIN : Hid (∀ x ∈ t, 0 ≤ x ∧ x < b.length) := hin
  have HO : Hid (Chn w w B lv lv l l.length 0) := ⟨ho, rfl, Kp.refl _ _, Own.refl _ _⟩
  obtain ⟨tp, tc, rfl⟩ := ht.len
  obtain ⟨bp, bc, rfl⟩ := hb.len
  obtain ⟨i0, hi0, hz0, hz1, hz2⟩ := info_parts Tryz.info40
  clear ho ht hb ht1 hb1 hin
  go_enter Tryz.func95, Tryz.ntmps95
  go_wp2
  go_loopg [0, 7] t.length (fun m v0 v7 wr => ∃ (i : Nat) (l1 : List In), v7 = .int .i64 i ∧ m = t.length - i ∧ i ≤ t.length ∧ Chn w wr B lv v0 l1 l.length i)
  case atStart => exact ⟨0, l, rfl, rfl, by omega, HO.out⟩
  case round =>
    obtain ⟨i, l1, rfl, hm, hi, hC⟩ := hrel
    have C1 : Hid (Chn w wr B lv u0 l1 l.length i) := hC
    obtain ⟨lp, lc, hlv⟩ := owns_lenL hC.own
    have hll := hC.len
    have hsz := hC.kp.size
    subst hlv
    have HTR : Hid (IntsR wr (.slice tp t.length tc) t) := HT.out.kp hC.kp HT1.out
    have HBR : Hid (IntsR wr (.slice bp b.length bc) b) := HB.out.kp hC.kp HB1.out
    clear hC HO
    by_cases hi' : i < t.length
    · obtain ⟨x, hx⟩ : ∃ x, t[i]? = some x := ⟨t[i], by simp [hi']⟩
      obtain ⟨g, c', e', hg, d0⟩ := HTR.out.cell i x hx
      simp only [Value.slice.injEq, true_and] at e'
      obtain ⟨rfl, rfl⟩ := e'
      obtain ⟨x0, x1⟩ := HIN.out x (List.mem_of_getElem? hx)
      obtain ⟨nx, rfl⟩ : ∃ nx : Nat, x = nx := ⟨x.toNat, by omega⟩
      obtain ⟨y, hy⟩ : ∃ y, b[nx]? = some y := ⟨b[nx]'(by omega), List.getElem?_eq_getElem (by omega)⟩
      obtain ⟨g2, c2, e2, hg2, d2⟩ := HBR.out.cell nx y hy
      simp only [Value.slice.injEq, true_and] at e2
      obtain ⟨rfl, rfl⟩ := e2
      have hq1 : ¬ g = wr.heap.size := by omega
      have hq2 : ¬ g2 = wr.heap.size := by omega
      have hnl : (l1.length : Int) + 1 ≤ 20000 := by omega
      generalize hLn : l1.length = ln at *
      have HLn : Hid (l1.length = ln) := hLn
      clear hx hy hLn hll
      by_cases hlast : i + 1 < t.length
      · go_wp2_with (at_builtin; refine wpList_append_lies _ rfl _ _ 28 rfl B 40 i0 (.agg #[.int .i64 0, .int .i64 0, .int .i64 0, .int .i64 0, .int .i64 0, .int .i64 0, .int .i64 0, .int .i64 0, .int .i64 0, .int .i64 0, .int .i64 0, .int .i64 0, .int .i64 0, .int .i64 0]) 14 112 Tryz.underlying28 hi0 hz0 hz1 hz2 rfl (by decide) (.slice lp ln lc) ln (codeC l1) rfl (by have := C1.out.own; rw [HLn.out] at this; exact (this.alloc _).alloc _) ⟨wr.heap.size + 1, 0, none⟩ 1 1 (insC ⟨5, y, (ln : Int) + 1, tst0⟩) rfl rfl (news_snd wr _ _ _) (oneCellsI _) (by decide) (by unfold maxLen; omega) (by omega) (by simp; omega) _ rfl ?_)
        intro g3 cap3 w3 hown3 hgrow3 hat3 hlt3
        have C3 : Hid (Chn w w3 B lv (.slice (some ⟨g3, 0, none⟩) (ln + 1) cap3) (l1 ++ [⟨5, y, (ln : Int) + 1, tst0⟩]) l.length (i + 1)) := by
          exact C1.out.more (x := ⟨5, y, (ln : Int) + 1, tst0⟩) hgrow3 (by rw [HLn.out]; exact hown3) (by
            intro q hq
            simp [Value.ownBlock] at hq
            subst hq
            rcases hat3 with e | e
            · exact Or.inl e
            · exact Or.inr (by omega))
        clear hown3 hgrow3 hat3 C1 HTR HBR
        go_wp2
        go_roundg (t.length - (i + 1))
        case measure => omega
        case rel => exact ⟨i + 1, _, by simp, rfl, by omega, C3.out⟩
      · go_wp2_with (at_builtin; refine wpList_append_lies _ rfl _ _ 28 rfl B 40 i0 (.agg #[.int .i64 0, .int .i64 0, .int .i64 0, .int .i64 0, .int .i64 0, .int .i64 0, .int .i64 0, .int .i64 0, .int .i64 0, .int .i64 0, .int .i64 0, .int .i64 0, .int .i64 0, .int .i64 0]) 14 112 Tryz.underlying28 hi0 hz0 hz1 hz2 rfl (by decide) (.slice lp ln lc) ln (codeC l1) rfl (by have := C1.out.own; rw [HLn.out] at this; exact (this.alloc _).alloc _) ⟨wr.heap.size + 1, 0, none⟩ 1 1 (insC ⟨4, y, 0, tst0⟩) rfl rfl (news_snd wr _ _ _) (oneCellsI _) (by decide) (by unfold maxLen; omega) (by omega) (by simp; omega) _ rfl ?_)
        intro g3 cap3 w3 hown3 hgrow3 hat3 hlt3
        have C3 : Hid (Chn w w3 B lv (.slice (some ⟨g3, 0, none⟩) (ln + 1) cap3) (l1 ++ [⟨4, y, 0, tst0⟩]) l.length (i + 1)) := by
          exact C1.out.more (x := ⟨4, y, 0, tst0⟩) hgrow3 (by rw [HLn.out]; exact hown3) (by
            intro q hq
            simp [Value.ownBlock] at hq
            subst hq
            rcases hat3 with e | e
            · exact Or.inl e
            · exact Or.inr (by omega))
        clear hown3 hgrow3 hat3 C1 HTR HBR
        go_wp2
        go_roundg (t.length - (i + 1))
        case measure => omega
        case rel => exact ⟨i + 1, _, by simp, rfl, by omega, C3.out⟩
    · have ei : i = t.length := by omega
      have HEI : Hid (i = t.length) := ei
      clear ei
      go_wp2
      go_ret
      exact ⟨_, l1, rfl, C1.out.own, by rw [← HEI.out]; exact C1.out.len, C1.out.kp, C1.out.ow⟩
end Go.Proofs.YtcboiapggnmpfaaGreat

namespace Go.Proofs.YtcboiapggnmpfaaGreat
open Go.RowKit
set_option linter.unusedSimpArgs false
set_option linter.unusedVariables false

def BlockPost (w : World) (N : Nat) (e : Ending) (w' : World) : Prop := ∃ (v : Value) (l : List In), e = .returned v ∧ w'.ownsRow w.heap.size 40 14 v l.length (codeC l) ∧ l.length ≤ N ∧ 0 < l.length ∧ Nw w w'
/-- The block while it is made; the names' row nv lies beside it. -/
structure Blk (w wr : World) (v : Value) (l : List In) (N : Nat) (nv : Value) (nl : List Int) (tv : Value) (nm : Int) : Prop where
  own : wr.ownsRow (w.heap.size + 1) 40 14 v l.length (codeC l)
  len : l.length ≤ N
  pos : 0 < l.length
  nam : wr.ownsRow (w.heap.size + 1) 3 1 nv nl.length (nl.map (Value.int .i64))
  c1 : wr.cell? ⟨w.heap.size, 1, none⟩ = some (.int .i64 nm)
  c3 : wr.cell? ⟨w.heap.size, 3, none⟩ = some tv
  lt : w.heap.size < wr.heap.size
  nw : Nw w wr
theorem Blk.next {w wr w' : World} {v : Value} {l : List In} {N : Nat} {nv : Value} {nl : List Int} {tv : Value} {nm : Int} (h : Blk w wr v l N nv nl tv nm) (k : Nw wr w') : Blk w w' v l N nv nl tv nm :=
  ⟨owns_kp h.own k (fun _ _ h => h), h.len, h.pos, owns_kp h.nam k (fun _ _ h => h), (k.cell (p := ⟨w.heap.size, 1, none⟩) h.lt (fun h => h)).trans h.c1, (k.cell (p := ⟨w.heap.size, 3, none⟩) h.lt (fun h => h)).trans h.c3, Nat.lt_of_lt_of_le h.lt k.size, h.nw.trans k⟩
theorem Blk.mono {w wr : World} {v : Value} {l : List In} {N N' : Nat} {nv : Value} {nl : List Int} {tv : Value} {nm : Int} (h : Blk w wr v l N nv nl tv nm) (hN : N ≤ N') : Blk w wr v l N' nv nl tv nm := ⟨h.own, Nat.le_trans h.len hN, h.pos, h.nam, h.c1, h.c3, h.lt, h.nw⟩
/-- Behind an append (W: the world at it, in which the row is as it was). -/
theorem Blk.more {w wr w' : World} {v v' : Value} {l : List In} {N : Nat} {nv : Value} {nl : List Int} {tv : Value} {nm : Int} {x : In} (h : Blk w wr v l N nv nl tv nm) (hg : wr.grownBy w' v.ownBlock) (ho : w'.ownsRow (w.heap.size + 1) 40 14 v' (l.length + 1) (codeC l ++ insC x)) : Blk w w' v' (l ++ [x]) (N + 1) nv nl tv nm := by
  have hge : ∀ b, v.ownBlock = some b → w.heap.size + 1 ≤ b := fun b hb => (h.own.lt b hb).1
  have hlen := h.len
  have K : Kp (fun b => b = w.heap.size + 0 ∧ False ∨ v.ownBlock = some b) wr w' := (Kp.refl _ wr).grown hg (fun b hb => Or.inr (Or.inr hb))
  have hS : ¬ (w.heap.size = w.heap.size + 0 ∧ False ∨ v.ownBlock = some w.heap.size) := by
    rintro (⟨_, e⟩ | e)
    · exact e
    · have := hge _ e; omega
  have hap : ∀ g, nv.ownBlock = some g → ¬ (g = w.heap.size + 0 ∧ False ∨ v.ownBlock = some g) := by
    rintro g hg1 (⟨_, e⟩ | e)
    · exact e
    · rcases h.nam.2 with ⟨rfl, _⟩ | ⟨g', cap, cur, rfl, hb, h3, _⟩
      · simp [Value.ownBlock] at hg1
      · rcases h.own.2 with ⟨rfl, _⟩ | ⟨g2, cap2, cur2, rfl, _, hg2, _⟩
        · simp [Value.ownBlock] at e
        · simp only [Value.ownBlock, Option.some.injEq] at e hg1
          subst e
          subst hg1
          rw [h3] at hg2
          simp only [Option.some.injEq, Obj.cells.injEq] at hg2
          exact absurd hg2.2.1 (by decide)
  refine ⟨?_, by simp; omega, by simp, owns_kp h.nam K hap, (K.cell (p := ⟨w.heap.size, 1, none⟩) h.lt hS).trans h.c1, (K.cell (p := ⟨w.heap.size, 3, none⟩) h.lt hS).trans h.c3, Nat.lt_of_lt_of_le h.lt K.size, ?_⟩
  · have e1 : (l ++ [x]).length = l.length + 1 := by simp
    rw [e1, codeC_snoc]; exact ho
  · refine Kp.trans' h.nw K ?_
    rintro b hb (⟨_, e⟩ | e)
    · exact e
    · have := hge b e; omega
set_option maxRecDepth 100000 in
set_option maxHeartbeats 4000000 in
theorem block_any (Q : TP) (ps : List Pt) (ss : List (St × Value)) (root win : Int) (w : World) (h : TreeF w Q ps ss root win) (k n : Int) (p : Nat) (tp : Option Addr) (tc : Nat) (tests : List Tst) (hto : w.ownsRow 0 38 11 (.slice tp tests.length tc) tests.length (tssC tests)) (htl : tests.length ≤ 1000) (hsl : (slotsTo ss ss.length).length ≤ 1000) :
    Calls Tryz.prog 93 #[.pointer (some ⟨Q.T, 0, none⟩), .agg #[.int .i64 k, .int .i64 n, .int .i64 p, .slice tp tests.length tc]] w (BlockPost w (2 + tests.length + (slotsTo ss ss.length).length)) := by
  have H : Hid (TreeF w Q ps ss root win) := h
  have HTO : Hid (w.ownsRow 0 38 11 (.slice tp tests.length tc) tests.length (tssC tests)) := hto
  have hT := h.r.ltT
  have HS : Hid (∀ ob, Calls Tryz.prog 111 #[.pointer (some ⟨Q.T, 0, none⟩)] (w.alloc ob) (SlotsPost (w.alloc ob) (slotsTo ss ss.length))) := fun ob => slots_any Q ps ss root win _ (h.r.nw ((Kp.refl _ w).alloc ob))
  generalize slotsTo ss ss.length = nl at *
  obtain ⟨i0, hi0, hz0, hz1, hz2⟩ := info_parts Tryz.info40
  clear h hto
  obtain ⟨T, gp, cp, gt, ct⟩ := Q
  simp only at hT
  go_enter Tryz.func93, Tryz.ntmps93
  go_wp2_with fail
  refine (HS.out _).mono ?_
  rintro e w1 ⟨nv, rfl, ho1, k1⟩
  have hsz1 := k1.size
  have hb1 : (w.alloc (.cells #[.int .i64 k, .int .i64 n, .int .i64 p, .slice tp tests.length tc] 173)).heap.size = w.heap.size + 1 := by simp
  obtain ⟨kk, hl1, ⟨kc, kz⟩⟩ := k1.box (fun h => h)
  have m0 : w1.cell? ⟨w.heap.size, 0, none⟩ = some (.int .i64 k) := by rw [kc]; simp [go_sem]
  have m1 : w1.cell? ⟨w.heap.size, 1, none⟩ = some (.int .i64 n) := by rw [kc]; simp [go_sem]
  have m3 : w1.cell? ⟨w.heap.size, 3, none⟩ = some (.slice tp tests.length tc) := by rw [kc]; simp [go_sem]
  have HK1 : Hid (Nw w w1) := kk
  rw [hb1] at ho1
  have HB1 : Hid (Blk w (w1.alloc (.cells #[.int .i64 0, .int .i64 k, .int .i64 0, .int .i64 0, .int .i64 0, .int .i64 0, .int .i64 0, .int .i64 0, .int .i64 0, .int .i64 0, .int .i64 0, .int .i64 0, .int .i64 0, .int .i64 0] 40)) (.slice (some ⟨w1.heap.size, 0, none⟩) 1 1) [⟨0, k, 0, tst0⟩] 1 nv nl (.slice tp tests.length tc) n) := by
    have kk2 : Nw w1 (w1.alloc (.cells #[.int .i64 0, .int .i64 k, .int .i64 0, .int .i64 0, .int .i64 0, .int .i64 0, .int .i64 0, .int .i64 0, .int .i64 0, .int .i64 0, .int .i64 0, .int .i64 0, .int .i64 0, .int .i64 0] 40)) := (Kp.refl _ _).alloc _
    refine ⟨?_, by simp, by simp, owns_kp ho1 kk2 (fun _ _ h => h), (kk2.cell (p := ⟨w.heap.size, 1, none⟩) hl1 (fun h => h)).trans m1, (kk2.cell (p := ⟨w.heap.size, 3, none⟩) hl1 (fun h => h)).trans m3, Nat.lt_of_lt_of_le hl1 kk2.size, kk.trans kk2⟩
    exact owns_new w1 (by omega) 40 #[.int .i64 0, .int .i64 k, .int .i64 0, .int .i64 0, .int .i64 0, .int .i64 0, .int .i64 0, .int .i64 0, .int .i64 0, .int .i64 0, .int .i64 0, .int .i64 0, .int .i64 0, .int .i64 0] 1 14 rfl (by unfold maxLen; omega)
  obtain ⟨np, nc, hnv⟩ := owns_lenL ho1
  subst hnv
  have hq1 : ¬ w.heap.size = w1.heap.size := by omega
  have c3 := (H.out.nw HB1.out.nw).r.c3
  simp only at c3
  clear kc kz kk k1 ho1 hb1 hsz1
  go_upto_if 20 with fail
  go_cut [6] (fun v wr => ∃ l, Blk w wr v l 2 (.slice np nl.length nc) nl (.slice tp tests.length tc) n)
  case first =>
    by_cases hw : 0 ≤ win
    · go_wp2_with (at_builtin; refine wpList_append_lies _ rfl _ _ 28 rfl (w.heap.size + 1) 40 i0 (.agg #[.int .i64 0, .int .i64 0, .int .i64 0, .int .i64 0, .int .i64 0, .int .i64 0, .int .i64 0, .int .i64 0, .int .i64 0, .int .i64 0, .int .i64 0, .int .i64 0, .int .i64 0, .int .i64 0]) 14 112 Tryz.underlying28 hi0 hz0 hz1 hz2 rfl (by decide) _ _ _ rfl (HB1.out.own.alloc _) ⟨w1.heap.size + 1, 0, none⟩ 1 1 (insC ⟨1, win, 0, tst0⟩) rfl rfl (news_snd w1 _ _ _) (oneCellsI _) (by decide) (by unfold maxLen; simp) (by simp) (by simp; omega) _ rfl ?_)
      intro g3 cap3 w3 hown3 hgrow3 hat3 hlt3
      have B3 : Hid (Blk w w3 (.slice (some ⟨g3, 0, none⟩) (1 + 1) cap3) ([⟨0, k, 0, tst0⟩] ++ [⟨1, win, 0, tst0⟩]) 2 (.slice np nl.length nc) nl (.slice tp tests.length tc) n) := (HB1.out.next ((Kp.refl _ _).alloc _)).more hgrow3 hown3
      clear hown3 hgrow3 hat3
      go_wp2
      go_meet
      case rel => exact ⟨_, B3.out⟩
    · have hw' : decide (0 ≤ win) = false := by simp; omega
      go_wp2
      go_meet
      case rel => exact ⟨_, HB1.out.mono (by omega)⟩
  case rest =>
    obtain ⟨l2, hB2⟩ := hcut
    have B2 : Hid (Blk w wc u6 l2 2 (.slice np nl.length nc) nl (.slice tp tests.length tc) n) := hB2
    clear hB2 HB1 c3 m0 m1 m3
    go_wp2
    go_loopg [6, 7] tests.length (fun m v6 v7 wr => ∃ (i : Nat) (l : List In), v7 = .int .i64 i ∧ m = tests.length - i ∧ i ≤ tests.length ∧ Blk w wr v6 l (2 + i) (.slice np nl.length nc) nl (.slice tp tests.length tc) n)
    case atStart => exact ⟨0, l2, rfl, rfl, by omega, B2.out⟩
    case round =>
      obtain ⟨i, l, rfl, hm, hi, hB⟩ := hrel
      have B3 : Hid (Blk w wr u6 l (2 + i) (.slice np nl.length nc) nl (.slice tp tests.length tc) n) := hB
      have d3 := hB.c3
      have hlt := hB.lt
      have hlen := hB.len
      clear hB B2
      by_cases hi' : i < tests.length
      · obtain ⟨t, hti⟩ : ∃ t, tests[i]? = some t := ⟨tests[i], by simp [hi']⟩
        obtain ⟨g, c, hsl2, _, hgl⟩ := HTO.out.form (by omega)
        simp only [Value.slice.injEq, true_and] at hsl2
        obtain ⟨rfl, rfl⟩ := hsl2
        have hta : TstAt wr g (i * 11) t := tstAt (owns_kp HTO.out B3.out.nw (fun _ _ h => h)) hti
        obtain ⟨⟨t0, t1, t2⟩, t3, ⟨t4, t5, t6⟩, t7, ⟨t8, t9, t10⟩⟩ := t
        obtain ⟨a0, a1, a2, a3, a4, a5, a6, a7, a8, a9, a10⟩ := hta
        simp only at a0 a1 a2 a3 a4 a5 a6 a7 a8 a9 a10
        have HSE : Hid (Calls Tryz.prog 147 #[.slice np nl.length nc, .agg #[.int .i64 t0, .int .i64 t1, .int .i64 t2, .int .i64 t3, .int .i64 t4, .int .i64 t5, .int .i64 t6, .int .i64 t7, .int .i64 t8, .int .i64 t9, .int .i64 t10]] wr (SettledPost wr)) := settled_any (.slice np nl.length nc) nl t0 t1 t2 t3 t4 t5 t6 t7 t8 t9 t10 wr (IntsR.of B3.out.nam) (by omega)
        clear hti
        go_wp2_with fail
        refine HSE.out.mono ?_
        rintro e w2 ⟨s0, s1, s2, s3, s4, s5, s6, s7, s8, s9, s10, rfl, k2⟩
        have hc11 : (c11 s0 s1 s2 s3 s4 s5 s6 s7 s8 s9 s10).toArray = #[.int .i64 s0, .int .i64 s1, .int .i64 s2, .int .i64 s3, .int .i64 s4, .int .i64 s5, .int .i64 s6, .int .i64 s7, .int .i64 s8, .int .i64 s9, .int .i64 s10] := rfl
        rw [hc11]
        have B4 : Hid (Blk w w2 u6 l (2 + i) (.slice np nl.length nc) nl (.slice (some ⟨g, 0, none⟩) tests.length tc) n) := B3.out.next k2
        have hl2 : w.heap.size < w2.heap.size := Nat.lt_of_lt_of_le hlt k2.size
        clear a0 a1 a2 a3 a4 a5 a6 a7 a8 a9 a10 k2 hc11 HSE B3 d3
        go_wp2_with (at_builtin; refine wpList_append_lies _ rfl _ _ 28 rfl (w.heap.size + 1) 40 i0 (.agg #[.int .i64 0, .int .i64 0, .int .i64 0, .int .i64 0, .int .i64 0, .int .i64 0, .int .i64 0, .int .i64 0, .int .i64 0, .int .i64 0, .int .i64 0, .int .i64 0, .int .i64 0, .int .i64 0]) 14 112 Tryz.underlying28 hi0 hz0 hz1 hz2 rfl (by decide) _ _ _ rfl ((B4.out.own.alloc _).alloc _) ⟨w2.heap.size + 1, 0, none⟩ 1 1 (insC ⟨2, 0, 0, ⟨⟨s0, s1, s2⟩, s3, ⟨s4, s5, s6⟩, s7, ⟨s8, s9, s10⟩⟩⟩) rfl rfl (news_snd w2 _ _ _) (oneCellsI _) (by decide) (by unfold maxLen; omega) (by omega) (by simp; omega) _ rfl ?_)
        intro g3 cap3 w3 hown3 hgrow3 hat3 hlt3
        have B5 : Hid (Blk w w3 (.slice (some ⟨g3, 0, none⟩) (l.length + 1) cap3) (l ++ [⟨2, 0, 0, ⟨⟨s0, s1, s2⟩, s3, ⟨s4, s5, s6⟩, s7, ⟨s8, s9, s10⟩⟩⟩]) (2 + i + 1) (.slice np nl.length nc) nl (.slice (some ⟨g, 0, none⟩) tests.length tc) n) := (B4.out.next (((Kp.refl _ _).alloc _).alloc _)).more hgrow3 hown3
        clear hown3 hgrow3 hat3 B4
        go_wp2
        go_roundg (tests.length - (i + 1))
        case measure => omega
        case rel => exact ⟨i + 1, _, by simp, rfl, by omega, B5.out⟩
      · have ei : i = tests.length := by omega
        have B6 : Hid (Blk w wr u6 l (2 + tests.length) (.slice np nl.length nc) nl (.slice tp tests.length tc) n) := by have := B3.out; rw [ei] at this; exact this
        clear ei B3
        go_wp2
        go_loopg [6, 9] nl.length (fun m v6 v9 wr => ∃ (j : Nat) (l : List In), v9 = .int .i64 j ∧ m = nl.length - j ∧ j ≤ nl.length ∧ Blk w wr v6 l (2 + tests.length + j) (.slice np nl.length nc) nl (.slice tp tests.length tc) n)
        case atStart => exact ⟨0, l, rfl, rfl, by omega, B6.out⟩
        case round =>
          obtain ⟨j, l5, rfl, hm5, hj, hB5⟩ := hrel
          have B7 : Hid (Blk w wr u6 l5 (2 + tests.length + j) (.slice np nl.length nc) nl (.slice tp tests.length tc) n) := hB5
          have d1 := hB5.c1
          have hlt5 := hB5.lt
          have hlen5 := hB5.len
          clear hB5 B6 d3
          by_cases hj' : j < nl.length
          · obtain ⟨x, hx⟩ : ∃ x, nl[j]? = some x := ⟨nl[j], by simp [hj']⟩
            obtain ⟨g, c', e', hg, d0⟩ := (IntsR.of B7.out.nam).cell j x hx
            simp only [Value.slice.injEq, true_and] at e'
            obtain ⟨rfl, rfl⟩ := e'
            have hjj : (j : Int) < nl.length := by omega
            clear hx
            by_cases hxe : x = n
            · have hxe' : (x == n) = true := by simp [hxe]
              have B8 : Hid (∀ q, Blk w (wr.drewN q) u6 l5 (2 + tests.length + j) (.slice (some ⟨g, 0, none⟩) nl.length nc) nl (.slice tp tests.length tc) n) := fun q => B7.out.next ((Kp.refl _ _).drewN q)
              clear hxe B7
              go_wp2
              go_quiet (fail)
              go_wp2_with (at_builtin; refine wpList_append_lies _ rfl _ _ 28 rfl (w.heap.size + 1) 40 i0 (.agg #[.int .i64 0, .int .i64 0, .int .i64 0, .int .i64 0, .int .i64 0, .int .i64 0, .int .i64 0, .int .i64 0, .int .i64 0, .int .i64 0, .int .i64 0, .int .i64 0, .int .i64 0, .int .i64 0]) 14 112 Tryz.underlying28 hi0 hz0 hz1 hz2 rfl (by decide) _ _ _ rfl ((B8.out _).own.alloc _) ⟨wr.heap.size, 0, none⟩ 1 1 (insC ⟨3, (j : Int), 0, tst0⟩) rfl rfl (news_one _ rfl _ _) (oneCellsI _) (by decide) (by unfold maxLen; omega) (by omega) (by simp; omega) _ rfl ?_)
              intro g3 cap3 w3 hown3 hgrow3 hat3 hlt3
              have B9 : Hid (Blk w w3 (.slice (some ⟨g3, 0, none⟩) (l5.length + 1) cap3) (l5 ++ [⟨3, (j : Int), 0, tst0⟩]) (2 + tests.length + j + 1) (.slice (some ⟨g, 0, none⟩) nl.length nc) nl (.slice tp tests.length tc) n) := ((B8.out _).next ((Kp.refl _ _).alloc _)).more hgrow3 hown3
              clear hown3 hgrow3 hat3 B8
              go_wp2
              go_roundg (nl.length - (j + 1))
              case measure => omega
              case rel => exact ⟨j + 1, _, by simp, rfl, by omega, B9.out⟩
            · have hxe' : (x == n) = false := by simp [hxe]
              have B8 : Hid (∀ q, Blk w (wr.drewN q) u6 l5 (2 + tests.length + (j + 1)) (.slice (some ⟨g, 0, none⟩) nl.length nc) nl (.slice tp tests.length tc) n) := fun q => (B7.out.next ((Kp.refl _ _).drewN q)).mono (by omega)
              clear hxe B7
              go_wp2
              go_quiet (fail)
              go_wp2
              go_roundg (nl.length - (j + 1))
              case measure => omega
              case rel => exact ⟨j + 1, l5, by simp, rfl, by omega, B8.out _⟩
          · have ej : j = nl.length := by omega
            have B8 : Hid (Blk w wr u6 l5 (2 + tests.length + nl.length) (.slice np nl.length nc) nl (.slice tp tests.length tc) n) := by have := B7.out; rw [ej] at this; exact this
            clear ej B7
            go_wp2
            go_ret
            exact ⟨_, l5, rfl, owns_baseP B8.out.own (by omega), B8.out.len, B8.out.pos, B8.out.nw⟩
end Go.Proofs.YtcboiapggnmpfaaGreat
