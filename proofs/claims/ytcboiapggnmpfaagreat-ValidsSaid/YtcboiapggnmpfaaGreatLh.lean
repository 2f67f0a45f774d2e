/- Walks: spotterlaw: an instruction is written over. -/
import Derived.Test.YtcboiapggnmpfaaGreatLg
namespace Go.Proofs.YtcboiapggnmpfaaGreat
open Go.RowKit
set_option linter.unusedSimpArgs false
set_option linter.unusedVariables false

theorem owns_len {w : World} {base n size : Nat} {e : TypeId} {v : Value} {xs : List Value} (h : w.ownsRow base e size v n xs) : ∃ p c, v = .slice p n c := by
  rcases h.2 with ⟨h2, h3⟩ | ⟨g', cap', cur, h2, _⟩
  · exact ⟨none, 0, by rw [h2, h3]⟩
  · exact ⟨_, _, h2⟩
theorem owns_froz {w : World} {base g n cap size : Nat} {e : TypeId} {xs : List Value} (h : w.ownsRow base e size (.slice (some ⟨g, 0, none⟩) n cap) n xs) (o : Nat) : w.frozen? ⟨g, o, none⟩ = false := by
  obtain ⟨h1, h2⟩ := h
  rcases h2 with ⟨h2, _⟩ | ⟨g', cap', cur, h2, hb, h3, h4, h5, h6, h7⟩
  · simp at h2
  · simp only [Value.slice.injEq, Option.some.injEq, Addr.mk.injEq, true_and, and_true] at h2
    obtain ⟨rfl, rfl⟩ := h2
    exact frozen_of_row w g _ _ e h3
theorem owns_ins {w : World} {base g cap : Nat} {e : TypeId} {l : List In} (h : w.ownsRow base e 14 (.slice (some ⟨g, 0, none⟩) l.length cap) l.length (codeC l)) {k : Nat} {x : In} (hk : l[k]? = some x) : InsAt w g (k * 14) x := by
  intro j v hv
  have hj : j < 14 := (List.getElem?_eq_some_iff.1 hv).1
  exact owns_cell h (k * 14 + j) (by rw [codeC_get l k j x hk hj]; exact hv)
set_option maxRecDepth 100000 in
set_option maxHeartbeats 1000000 in
theorem owner_7 (X : Oth) (B n : Nat) (o : Opr) (w : World) (h : LSE X w B n) (hk : o.kind = 7) (hn : n ≤ 740000000000) (ha0 : -9223372036854775808 ≤ o.a) (ha1 : o.a ≤ 9223372036854775807) : Calls Tryz.prog 33 #[.pointer (some ⟨B, 0, none⟩), opV o] w (OwnPost X w B n true) := by
  obtain ⟨s, t, la, lb, cv, l, vs, F, h⟩ := h
  have H : Hid (LS X w B n s t la lb cv l vs F) := h
  have hl := h.lw.lt
  have hown := h.own
  have hlen := h.len
  have hne : ¬ B = w.heap.size := by omega
  have hne' : ¬ w.heap.size = B := by omega
  have c4 := h.lw.c4
  have fz := h.lw.fz
  clear h
  unfold opV
  rw [hk]
  by_cases h0 : l.length = 0
  · obtain ⟨p, c, rfl⟩ := owns_len hown
    rw [h0] at c4
    go_enter Tryz.func33, Tryz.ntmps33
    go_wp2
    go_ret
    exact ⟨rfl, ⟨_, _, _, _, _, _, _, _, H.out.nw ((Kp.refl _ _).alloc _)⟩, (Kp.refl _ w).alloc _⟩
  · obtain ⟨g, cap, rfl, hg, hg2⟩ := hown.form (by omega)
    obtain ⟨i0, hi0, hz0, hz1, hz2⟩ := info_parts Tryz.info40
    have hgB : ¬ g = B := by omega
    have hgB' : ¬ B = g := by omega
    have hgw : ¬ g = w.heap.size := by omega
    have hgw' : ¬ w.heap.size = g := by omega
    go_enter Tryz.func33, Tryz.ntmps33
    go_wp2
    go_region_with ((go_at_call 42; refine (pick_any _ _ _ (by omega) ha0 ha1 (by omega)).mono ?_; rintro e1 w1 ⟨k, rfl, hk', rfl⟩))
    all_goals
      have hkl : k < l.length := by omega
      obtain ⟨q1, y, q2, hq, hqk⟩ := split_at hkl
      have hgz := owns_froz hown
      obtain ⟨d0, d1, d2, d3, d4, d5, d6, d7, d8, d9, d10, d11, d12, d13⟩ := (owns_ins hown (k := k) (x := y) (by rw [hq, ← hqk]; simp)).cells
      have HF : Hid (∀ ob, OwnPost X w B n true (.returned (.bool true)) (((w.setCells g (k * 14) (insC o.ins)).alloc ob).drew.drew)) := by
        intro ob
        have kg : Kp (fun b => b = g) w (w.setCells g (k * 14) (insC o.ins)) := Kp.setCells (S := fun b => b = g) (Or.inr rfl) _ _ _ (Kp.refl _ _)
        have h2 : LS X (w.setCells g (k * 14) (insC o.ins)) B n s t la lb (.slice (some ⟨g, 0, none⟩) l.length cap) (q1 ++ o.ins :: q2) vs F := by
          refine ⟨H.out.lw.sm (kg.sm hl (by omega)), ?_, ?_, H.out.hs, H.out.ht, X.keep H.out.oth kg (fun b e => by subst e; exact H.out.apart _ rfl), H.out.above, H.out.apart⟩
          · have := H.out.own
            rw [hq] at this
            have h3 := owns_put (x := o.ins) this
            rw [hqk] at h3
            have e : (q1 ++ o.ins :: q2).length = l.length := by rw [hq]; simp
            rw [e] at h3 ⊢
            exact h3
          · have e : (q1 ++ o.ins :: q2).length = l.length := by rw [hq]; simp
            rw [e]; exact hlen
        have kk : Nw (w.setCells g (k * 14) (insC o.ins)) ((w.setCells g (k * 14) (insC o.ins)).alloc ob).drew.drew := (((Kp.refl _ _).alloc _).drew).drew
        exact ⟨rfl, ⟨_, _, _, _, _, _, _, _, h2.nw kk⟩, (kg.mono (by intro b _ e; omega)).trans (kk.mono (fun _ _ h => False.elim h))⟩
      clear hq hqk hown
      go_wp2
      go_region
      all_goals
        go_wp2
        go_ret
        exact HF.out _
end Go.Proofs.YtcboiapggnmpfaaGreat
