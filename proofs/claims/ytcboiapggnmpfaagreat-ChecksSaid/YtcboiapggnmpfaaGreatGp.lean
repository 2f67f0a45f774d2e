/- Walks: spotterref: the graph of a pattern, plain and written out. -/
import Derived.Test.YtcboiapggnmpfaaGreatGj
import Derived.Test.YtcboiapggnmpfaaGreatQi
namespace Go.Proofs.YtcboiapggnmpfaaGreat
open Go.RowKit
set_option linter.unusedSimpArgs false
set_option linter.unusedVariables false

theorem owns_baseP {w : World} {base base' n size : Nat} {e : TypeId} {v : Value} {xs : List Value} (h : w.ownsRow base e size v n xs) (hb : base' ≤ base) : w.ownsRow base' e size v n xs := by
  refine ⟨h.1, ?_⟩
  rcases h.2 with h2 | ⟨g, cap, cur, h2, h3, h4⟩
  · exact Or.inl h2
  · exact Or.inr ⟨g, cap, cur, h2, by omega, h4⟩
/-- A new graph: a block of its own. -/
theorem GT.fresh {w w' : World} {G n : Nat} {a b : Int} (hG : G < w'.heap.size) (g : Gr w' G n (.slice none 0 0) (.slice none 0 0) a b) : GT w' G w'.heap.size n (.slice none 0 0) (.slice none 0 0) a b [] [] :=
  ⟨⟨g, World.ownsRow_nil _ _ _ _, hG, Nat.le_refl _, by simp, by intro e he; cases he⟩, World.ownsRow_nil _ _ _ _, by simp⟩
theorem Gr.set3 {w : World} {G n : Nat} {ev sv : Value} {i o : Int} (h : Gr w G n ev sv i o) (v : Int) : Gr (w.setCell ⟨G, 3, none⟩ (.int .i64 v)) G n ev sv v o := by
  obtain ⟨c0, c1, c2, c3, c4, fz⟩ := h
  constructor <;> simp [go_sem, c0, c1, c2, c3, c4, fz]
theorem Gr.set4 {w : World} {G n : Nat} {ev sv : Value} {i o : Int} (h : Gr w G n ev sv i o) (v : Int) : Gr (w.setCell ⟨G, 4, none⟩ (.int .i64 v)) G n ev sv i v := by
  obtain ⟨c0, c1, c2, c3, c4, fz⟩ := h
  constructor <;> simp [go_sem, c0, c1, c2, c3, c4, fz]
theorem Gr.new (w : World) : Gr (w.alloc (.cells #[.int .i64 0, .slice none 0 0, .slice none 0 0, .int .i64 0, .int .i64 0] 170)) w.heap.size 0 (.slice none 0 0) (.slice none 0 0) 0 0 := by
  constructor <;> simp [go_sem]
/-- What plainly and out leave: a graph that is asked, with its places' steps. -/
def OutPost (w : World) (Q : TP) (ps : List Pt) (ss : List (St × Value)) (root win : Int) (N1 N2 M : Nat) (e : Ending) (w' : World) : Prop :=
  ∃ (n : Nat) (ev sv : Value) (es : List Ed) (st : List Int), e = .returned (.pointer (some ⟨w.heap.size, 0, none⟩)) ∧ GQ w' w.heap.size n ev sv 0 1 es Q ps ss root win ∧ (∀ y ∈ es, y.st < N1) ∧ w'.ownsRow 0 3 1 sv st.length (st.map (Value.int .i64)) ∧ (∀ y ∈ st, 0 ≤ y ∧ y < N2) ∧ st.length ≤ M ∧ Nw w w'
set_option maxRecDepth 100000 in
set_option maxHeartbeats 2000000 in
theorem plainly_any (Q : TP) (ps : List Pt) (ss : List (St × Value)) (root : Nat) (win : Int) (w : World) (N1 N2 M N : Nat) (h : TreeF w Q ps ss root win) (hN : N + 2 ≤ 100000) (hM : M ≤ 100000)
    (hI : ∀ B : Nat, Apart Q w.heap.size B → PlainOk 150 Q ps ss root win w.heap.size B 0 1 N1 N2 root N M) :
    Calls Tryz.prog 98 #[.pointer (some ⟨Q.T, 0, none⟩)] w (OutPost w Q ps ss root win N1 N2 M) := by
  have H : Hid (TreeF w Q ps ss root win) := h
  have HI : Hid (∀ B : Nat, Apart Q w.heap.size B → PlainOk 150 Q ps ss root win w.heap.size B 0 1 N1 N2 root N M) := hI
  have hT := h.r.ltT
  have hp := h.r.ltp
  have ht := h.r.ltt
  clear h hI
  have G0 := Gr.new w
  go_enter Tryz.func98, Tryz.ntmps98
  go_wp2_with fail
  refine (point_any w.heap.size 0 (.slice none 0 0) (.slice none 0 0) 0 0 _ G0 (by omega)).mono ?_
  rintro e w1 ⟨rfl, hw1⟩
  have G1 := G0.set0 1
  have K1 : Nw w w1 := by rw [hw1]; exact ((Kp.refl _ w).alloc _).setCell (p := ⟨w.heap.size, 0, none⟩) (Or.inl (Nat.le_refl _)) _
  have G1' : Gr w1 w.heap.size 1 (.slice none 0 0) (.slice none 0 0) 0 0 := by rw [hw1]; exact G1
  clear hw1 G0 G1
  obtain ⟨a0, a1, a2, a3, a4, az⟩ := G1'
  have HG1 : Hid (Gr w1 w.heap.size 1 (.slice none 0 0) (.slice none 0 0) 0 0) := ⟨a0, a1, a2, a3, a4, az⟩
  have HK1 : Hid (Nw w w1) := K1
  clear K1
  go_wp2_with fail
  refine (point_any w.heap.size 1 (.slice none 0 0) (.slice none 0 0) _ _ _ (HG1.out.set3 0) (by omega)).mono ?_
  rintro e w2 ⟨rfl, hw2⟩
  have G2 : Hid (Gr w2 w.heap.size 2 (.slice none 0 0) (.slice none 0 0) 0 0) := by show Gr _ _ _ _ _ _ _; rw [hw2]; exact (HG1.out.set3 0).set0 2
  have K2 : Hid (Nw w w2) := by show Nw _ _; rw [hw2]; exact (HK1.out.setCell (p := ⟨w.heap.size, 3, none⟩) (Or.inl (Nat.le_refl _)) _).setCell (p := ⟨w.heap.size, 0, none⟩) (Or.inl (Nat.le_refl _)) _
  clear hw2 a0 a1 a2 a3 a4 az
  obtain ⟨a0, a1, a2, a3, a4, az⟩ := G2.out
  have G3 : Hid (Gr (w2.setCell ⟨w.heap.size, 4, none⟩ (.int .i64 1)) w.heap.size 2 (.slice none 0 0) (.slice none 0 0) 0 1) := G2.out.set4 1
  have K3 : Hid (Nw w (w2.setCell ⟨w.heap.size, 4, none⟩ (.int .i64 1))) := K2.out.setCell (p := ⟨w.heap.size, 4, none⟩) (Or.inl (Nat.le_refl _)) _
  have T3 : Hid (TreeF (w2.setCell ⟨w.heap.size, 4, none⟩ (.int .i64 1)) Q ps ss root win) := H.out.nw K3.out
  have c2 := (H.out.nw K2.out).r.c2
  have hne : ¬ Q.T = w.heap.size := by omega
  have hne' : ¬ w.heap.size = Q.T := by omega
  go_wp2
  generalize hw3 : w2.setCell ⟨w.heap.size, 4, none⟩ (.int .i64 1) = w3 at *
  obtain ⟨b0, b1, b2, b3, b4, bz⟩ := G3.out
  have e2 := T3.out.r.c2
  have hl3 := G3.out.lt
  have HAP : Hid (Apart Q w.heap.size w3.heap.size) := ⟨by have := K3.out.size; omega, by have := K3.out.size; omega, by have := K3.out.size; omega, by omega, by omega, by omega⟩
  have HC : Hid (∀ j, Calls Tryz.prog 150 #[.pointer (some ⟨w.heap.size, 0, none⟩), .pointer (some ⟨Q.T, 0, none⟩), .int .i64 root, .int .i64 0, .int .i64 1] (w3.drewN j) (GPost w.heap.size w3.heap.size 0 1 N1 N2 2 (.slice none 0 0) (.slice none 0 0) 0 0 N N M (w3.drewN j))) := fun j =>
    HI.out w3.heap.size HAP.out 2 (.slice none 0 0) (.slice none 0 0) [] [] 0 1 (w3.drewN j) (T3.out.nw ((Kp.refl _ _).drewN j)).r ((GT.fresh (w := w) hl3 G3.out).nw ((Kp.refl _ _).drewN j)) (by intro y hy; cases hy) (by intro y hy; cases hy) (by omega) (by omega) (by omega) (by simp; omega) (by simp; omega)
  clear a0 a1 a2 a3 a4 az c2 hw3
  go_region_with ((go_at_call 150; refine (HC.out _).mono ?_; rintro e1 w4 ⟨rfl, n4, ev4, sv4, es4, st4, g4, x1, x2, x3, x4, x5, x6, k4, o1, o2⟩))
  all_goals
    have K4 : Hid (Nw w w4) := by
      refine Kp.trans' (K3.out.drewN _) k4 ?_
      rintro i hi (e | e | e)
      · omega
      · simp [Value.ownBlock] at e
      · simp [Value.ownBlock] at e
    have GQ4 : Hid (GQ w4 w.heap.size n4 ev4 sv4 0 1 es4 Q ps ss root win) := ⟨g4.gs.gr, g4.gs.ge, H.out.nw K4.out, by omega, by omega, by omega, g4.gs.ok⟩
    have X1 : Hid (∀ y ∈ es4, y.st < N1) := x1
    have X2 : Hid (∀ y ∈ st4, 0 ≤ y ∧ y < N2) := x2
    have X3 : Hid (w4.ownsRow 0 3 1 sv4 st4.length (st4.map (Value.int .i64))) := owns_baseP g4.own2 (Nat.zero_le _)
    have X4 : Hid (st4.length ≤ M) := by have := x6; show _ ≤ _; simpa using this
    clear k4 o1 o2 g4 x1 x2 x3 x4 x5 x6
    go_wp2
    go_ret
    exact ⟨n4, ev4, sv4, es4, st4, rfl, GQ4.out, X1.out, X3.out, X2.out, X4.out, K4.out⟩
set_option maxRecDepth 100000 in
set_option maxHeartbeats 2000000 in
theorem out_any (Q : TP) (ps : List Pt) (ss : List (St × Value)) (root : Nat) (win : Int) (w : World) (N1 N2 M N : Nat) (h : TreeF w Q ps ss root win) (hN : N + 2 ≤ 100000) (hM : M ≤ 100000)
    (hI : ∀ B : Nat, Apart Q w.heap.size B → PlainOk 145 Q ps ss root win w.heap.size B 0 1 N1 N2 root N M) :
    Calls Tryz.prog 91 #[.pointer (some ⟨Q.T, 0, none⟩)] w (OutPost w Q ps ss root win N1 N2 M) := by
  have H : Hid (TreeF w Q ps ss root win) := h
  have HI : Hid (∀ B : Nat, Apart Q w.heap.size B → PlainOk 145 Q ps ss root win w.heap.size B 0 1 N1 N2 root N M) := hI
  have hT := h.r.ltT
  have hp := h.r.ltp
  have ht := h.r.ltt
  clear h hI
  have G0 := Gr.new w
  go_enter Tryz.func91, Tryz.ntmps91
  go_wp2_with fail
  refine (point_any w.heap.size 0 (.slice none 0 0) (.slice none 0 0) 0 0 _ G0 (by omega)).mono ?_
  rintro e w1 ⟨rfl, hw1⟩
  have G1 := G0.set0 1
  have K1 : Nw w w1 := by rw [hw1]; exact ((Kp.refl _ w).alloc _).setCell (p := ⟨w.heap.size, 0, none⟩) (Or.inl (Nat.le_refl _)) _
  have G1' : Gr w1 w.heap.size 1 (.slice none 0 0) (.slice none 0 0) 0 0 := by rw [hw1]; exact G1
  clear hw1 G0 G1
  obtain ⟨a0, a1, a2, a3, a4, az⟩ := G1'
  have HG1 : Hid (Gr w1 w.heap.size 1 (.slice none 0 0) (.slice none 0 0) 0 0) := ⟨a0, a1, a2, a3, a4, az⟩
  have HK1 : Hid (Nw w w1) := K1
  clear K1
  go_wp2_with fail
  refine (point_any w.heap.size 1 (.slice none 0 0) (.slice none 0 0) _ _ _ (HG1.out.set3 0) (by omega)).mono ?_
  rintro e w2 ⟨rfl, hw2⟩
  have G2 : Hid (Gr w2 w.heap.size 2 (.slice none 0 0) (.slice none 0 0) 0 0) := by show Gr _ _ _ _ _ _ _; rw [hw2]; exact (HG1.out.set3 0).set0 2
  have K2 : Hid (Nw w w2) := by show Nw _ _; rw [hw2]; exact (HK1.out.setCell (p := ⟨w.heap.size, 3, none⟩) (Or.inl (Nat.le_refl _)) _).setCell (p := ⟨w.heap.size, 0, none⟩) (Or.inl (Nat.le_refl _)) _
  clear hw2 a0 a1 a2 a3 a4 az
  obtain ⟨a0, a1, a2, a3, a4, az⟩ := G2.out
  have G3 : Hid (Gr (w2.setCell ⟨w.heap.size, 4, none⟩ (.int .i64 1)) w.heap.size 2 (.slice none 0 0) (.slice none 0 0) 0 1) := G2.out.set4 1
  have K3 : Hid (Nw w (w2.setCell ⟨w.heap.size, 4, none⟩ (.int .i64 1))) := K2.out.setCell (p := ⟨w.heap.size, 4, none⟩) (Or.inl (Nat.le_refl _)) _
  have T3 : Hid (TreeF (w2.setCell ⟨w.heap.size, 4, none⟩ (.int .i64 1)) Q ps ss root win) := H.out.nw K3.out
  have c2 := (H.out.nw K2.out).r.c2
  have hne : ¬ Q.T = w.heap.size := by omega
  have hne' : ¬ w.heap.size = Q.T := by omega
  go_wp2
  generalize hw3 : w2.setCell ⟨w.heap.size, 4, none⟩ (.int .i64 1) = w3 at *
  obtain ⟨b0, b1, b2, b3, b4, bz⟩ := G3.out
  have e2 := T3.out.r.c2
  have hl3 := G3.out.lt
  have HAP : Hid (Apart Q w.heap.size w3.heap.size) := ⟨by have := K3.out.size; omega, by have := K3.out.size; omega, by have := K3.out.size; omega, by omega, by omega, by omega⟩
  have HC : Hid (∀ j, Calls Tryz.prog 145 #[.pointer (some ⟨w.heap.size, 0, none⟩), .pointer (some ⟨Q.T, 0, none⟩), .int .i64 root, .int .i64 0, .int .i64 1] (w3.drewN j) (GPost w.heap.size w3.heap.size 0 1 N1 N2 2 (.slice none 0 0) (.slice none 0 0) 0 0 N N M (w3.drewN j))) := fun j =>
    HI.out w3.heap.size HAP.out 2 (.slice none 0 0) (.slice none 0 0) [] [] 0 1 (w3.drewN j) (T3.out.nw ((Kp.refl _ _).drewN j)).r ((GT.fresh (w := w) hl3 G3.out).nw ((Kp.refl _ _).drewN j)) (by intro y hy; cases hy) (by intro y hy; cases hy) (by omega) (by omega) (by omega) (by simp; omega) (by simp; omega)
  clear a0 a1 a2 a3 a4 az c2 hw3
  go_region_with ((go_at_call 145; refine (HC.out _).mono ?_; rintro e1 w4 ⟨rfl, n4, ev4, sv4, es4, st4, g4, x1, x2, x3, x4, x5, x6, k4, o1, o2⟩))
  all_goals
    have K4 : Hid (Nw w w4) := by
      refine Kp.trans' (K3.out.drewN _) k4 ?_
      rintro i hi (e | e | e)
      · omega
      · simp [Value.ownBlock] at e
      · simp [Value.ownBlock] at e
    have GQ4 : Hid (GQ w4 w.heap.size n4 ev4 sv4 0 1 es4 Q ps ss root win) := ⟨g4.gs.gr, g4.gs.ge, H.out.nw K4.out, by omega, by omega, by omega, g4.gs.ok⟩
    have X1 : Hid (∀ y ∈ es4, y.st < N1) := x1
    have X2 : Hid (∀ y ∈ st4, 0 ≤ y ∧ y < N2) := x2
    have X3 : Hid (w4.ownsRow 0 3 1 sv4 st4.length (st4.map (Value.int .i64))) := owns_baseP g4.own2 (Nat.zero_le _)
    have X4 : Hid (st4.length ≤ M) := by have := x6; show _ ≤ _; simpa using this
    clear k4 o1 o2 g4 x1 x2 x3 x4 x5 x6
    go_wp2
    go_ret
    exact ⟨n4, ev4, sv4, es4, st4, rfl, GQ4.out, X1.out, X3.out, X2.out, X4.out, K4.out⟩
end Go.Proofs.YtcboiapggnmpfaaGreat
