/- Walks: spotterlaw: one instruction more; one written over. -/
import Derived.Test.YtcboiapggnmpfaaGreatLf
import Derived.Deep.RegionLaw
import Derived.Deep.DrawnRows
namespace Go.Proofs.YtcboiapggnmpfaaGreat
open Go.RowKit
set_option linter.unusedSimpArgs false
set_option linter.unusedVariables false

theorem news_two' (w2 : World) (o : Obj) (cs : Array Value) (t : TypeId) : ∀ j u, cs.toList[j]? = some u → ((w2.alloc o).alloc (.cells cs t)).cell? ((⟨w2.heap.size + 1, 0, none⟩ : Addr).add j) = some u :=
  World.news_of_block (by have := heap_alloc_new (w2.alloc o) (.cells cs t); simpa using this)
set_option maxRecDepth 100000 in
set_option maxHeartbeats 1000000 in
theorem owner_4 (X : Oth) (B n : Nat) (o : Opr) (w : World) (h : LSE X w B n) (hk : o.kind = 4) (hn : n ≤ 740000000000) : Calls Tryz.prog 33 #[.pointer (some ⟨B, 0, none⟩), opV o] w (OwnPost X w B (n + 1) true) := by
  obtain ⟨s, t, la, lb, cv, l, vs, F, h⟩ := h
  have H : Hid (LS X w B n s t la lb cv l vs F) := h
  have hl := h.lw.lt
  have hown := h.own
  have hlen := h.len
  obtain ⟨c0, c1, c2, c3, c4, c5, c6, c7, c8, c9, fz⟩ := h.lw
  clear h
  have hne : ¬ B = w.heap.size := by omega
  have hne' : ¬ w.heap.size = B := by omega
  obtain ⟨i0, hi0, hz0, hz1, hz2⟩ := info_parts Tryz.info40
  have hge : Hid (∀ b, cv.ownBlock = some b → B + 1 ≤ b ∧ b < w.heap.size) := by
    intro b hb
    exact hown.lt b hb
  have hBn : ¬ some B = cv.ownBlock := by intro e; have := hge.out B e.symm; omega
  unfold opV
  rw [hk]
  clear c0 c1 c2 c3 c5 c6 c7 c8 c9
  go_enter Tryz.func33, Tryz.ntmps33
  go_wp2
  go_region_law
    ((refine step_append_lies _ (by rfl) _ _ _ (by rfl) (B + 1) 40 i0 (.agg #[.int .i64 0, .int .i64 0, .int .i64 0, .int .i64 0, .int .i64 0, .int .i64 0, .int .i64 0, .int .i64 0, .int .i64 0, .int .i64 0, .int .i64 0, .int .i64 0, .int .i64 0, .int .i64 0]) 14 112 Tryz.underlying28 hi0 hz0 hz1 hz2 rfl (by omega) cv l.length (codeC l) (by rfl) (by exact (hown.alloc _).alloc _) ⟨w.heap.size + 1, 0, none⟩ 1 1 (insC o.ins) (by rfl) (by rfl) (by exact news_two' w _ _ _) (codeC_oneI o.ins) (by omega) (by unfold maxLen; omega) (by omega) (by simp; omega) (w.heap.size + 2) (by simp) ?_; intro g cap w1 hown1 hgrow hat hlt; have kR : ∀ o, w1.cell? ⟨B, o, none⟩ = w.cell? ⟨B, o, none⟩ := (fun o => (hgrow.cell_far _ (by simp; omega) hBn).trans (by simp [go_sem, hl, World.cell?_alloc_past])); have kz : ∀ o, w1.frozen? ⟨B, o, none⟩ = w.frozen? ⟨B, o, none⟩ := (fun o => (hgrow.frozen_far _ (by simp; omega) hBn).trans (by simp [go_sem, hl, World.frozen?_alloc_past]))))
  all_goals
    have W1 : Hid (LW w1 B s t la lb cv vs) := H.out.lw.sm ⟨kR, kz⟩
    have K1 : Hid (KB B w w1) := ((((Kp.refl _ w).alloc _).alloc _).drew).grown hgrow (fun b hb => Or.inr (by have := hge.out b hb; omega))
    have ko : Kp (fun b => cv.ownBlock = some b) w w1 := ((((Kp.refl _ w).alloc _).alloc _).drew).grown hgrow (fun b hb => Or.inr hb)
    have X1 : Hid (X.P vs F (n + 1) w1) := X.up (X.keep H.out.oth ko (fun b hb => H.out.apart b hb))
    have A1 : Hid (¬ F g) := by
      intro hf
      rcases hat with e | e
      · exact H.out.apart g e hf
      · have := X.lt H.out.oth hf; omega
    clear ko
    have O1 : Hid (w1.ownsRow (B + 1) 40 14 (.slice (some ⟨g, 0, none⟩) (l.length + 1) cap) (l ++ [o.ins]).length (codeC (l ++ [o.ins]))) := by
      have e1 : (l ++ [o.ins]).length = l.length + 1 := by simp
      have e2 : codeC (l ++ [o.ins]) = codeC l ++ insC o.ins := by rw [codeC_append]; simp [codeC]
      show w1.ownsRow _ _ _ _ _ _
      rw [e1, e2]
      exact hown1
    clear hown1 hgrow hat
    go_wp2
    go_ret
    have h2 : LS X (w1.setCell ⟨B, 4, none⟩ (.slice (some ⟨g, 0, none⟩) (l.length + 1) cap)) B (n + 1) s t la lb (.slice (some ⟨g, 0, none⟩) (l.length + 1) cap) (l ++ [o.ins]) vs F := ⟨W1.out.set4 _, owns_setB O1.out _ _, by simp; omega, H.out.hs, H.out.ht, X.keep X1.out ((Kp.refl (fun b => b = B) w1).setCell (p := ⟨B, 4, none⟩) (Or.inr rfl) _) (fun b e hf => by have := H.out.above b hf; omega), H.out.above, fun b hb => by simp [Value.ownBlock] at hb; subst hb; exact A1.out⟩
    exact ⟨rfl, ⟨_, _, _, _, _, _, _, _, h2⟩, K1.out.setCell (p := ⟨B, 4, none⟩) (Or.inr (Nat.le_refl B)) _⟩
/-- One instruction of a row of one's own is written over. -/
theorem owns_put {w : World} {base g cap : Nat} {a b : List In} {y x : In} (h : w.ownsRow base 40 14 (.slice (some ⟨g, 0, none⟩) (a ++ y :: b).length cap) (a ++ y :: b).length (codeC (a ++ y :: b))) :
    (w.setCells g (a.length * 14) (insC x)).ownsRow base 40 14 (.slice (some ⟨g, 0, none⟩) (a ++ x :: b).length cap) (a ++ x :: b).length (codeC (a ++ x :: b)) := by
  obtain ⟨h1, h2⟩ := h
  rcases h2 with ⟨h2, _⟩ | ⟨g', cap', cur, h2, hb, h3, h4, h5, h6, h7⟩
  · simp at h2
  · simp only [Value.slice.injEq, Option.some.injEq, Addr.mk.injEq, true_and, and_true] at h2
    obtain ⟨rfl, rfl⟩ := h2
    have ec : ∀ z : In, codeC (a ++ z :: b) = codeC a ++ (insC z ++ codeC b) := by intro z; rw [codeC_append]; simp [codeC]
    have hlz : ∀ z : In, (a ++ z :: b).length = a.length + b.length + 1 := by intro z; simp; omega
    have hcur : cur.toList = codeC (a ++ y :: b) ++ cur.toList.drop ((a ++ y :: b).length * 14) := by rw [← h7, List.take_append_drop]
    generalize hD : cur.toList.drop ((a ++ y :: b).length * 14) = D at hcur
    rw [ec, List.append_assoc, List.append_assoc] at hcur
    have hr : Row w g 40 (codeC a ++ (insC y ++ (codeC b ++ D))) := by
      rw [Row, h3, ← hcur]
    have hr2 := Row.setCells (insC x) w (a.length * 14) (codeC a) (insC y) _ hr (codeC_length a) rfl
    have hsz : cur.size = (codeC a ++ (insC y ++ (codeC b ++ D))).length := by rw [← hcur]; simp
    refine ⟨codeC_length _, Or.inr ⟨g, cap, _, rfl, hb, hr2, by rw [hlz] at h4 ⊢; exact h4, h5, ?_, ?_⟩⟩
    · rw [← h6, hsz]; simp [insC]
    · rw [ec]
      have e : (codeC a ++ (insC x ++ (codeC b ++ D))).toArray.toList = (codeC a ++ (insC x ++ codeC b)) ++ D := by simp
      rw [e, List.take_append_of_le_length, List.take_of_length_le]
      · rw [← ec, codeC_length]; exact Nat.le_refl _
      · rw [← ec, codeC_length]; exact Nat.le_refl _
theorem split_at {l : List In} {k : Nat} (h : k < l.length) : ∃ a y b, l = a ++ y :: b ∧ a.length = k :=
  ⟨l.take k, l[k], l.drop (k + 1), by rw [List.getElem_cons_drop, List.take_append_drop], by simp; omega⟩
end Go.Proofs.YtcboiapggnmpfaaGreat
