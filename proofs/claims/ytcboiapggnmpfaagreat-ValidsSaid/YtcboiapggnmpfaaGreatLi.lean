/- Walks: spotterlaw: the list becomes the document's program. -/
import Derived.Test.YtcboiapggnmpfaaGreatLg
namespace Go.Proofs.YtcboiapggnmpfaaGreat
open Go.RowKit
set_option linter.unusedSimpArgs false
set_option linter.unusedVariables false

/-- What is asked of the document's Compile here: that it ends, writes nothing that was there, and answers with OK a list of its own. -/
def CompileOk : Prop := ∀ (s t : ByteArray) (w : World), s.size ≤ maxLen → t.size ≤ maxLen →
  Calls Tryz.prog 62 #[.string s, .string t] w fun e w' => Nw w w' ∧ ∃ v f l, e = .returned (.tuple #[v, .int .i64 f]) ∧ (f = 0 → w'.ownsRow w.heap.size 40 14 v l.length (codeC l) ∧ l.length ≤ 10000)
theorem owns_len2 {w : World} {base n size : Nat} {e : TypeId} {v : Value} {xs : List Value} (h : w.ownsRow base e size v n xs) : ∃ p c, v = .slice p n c := by
  rcases h.2 with ⟨h2, h3⟩ | ⟨g', cap', cur, h2, _⟩
  · exact ⟨none, 0, by rw [h2, h3]⟩
  · exact ⟨_, _, h2⟩
theorem owns_base {w : World} {base base' n size : Nat} {e : TypeId} {v : Value} {xs : List Value} (h : w.ownsRow base e size v n xs) (hb : base' ≤ base) : w.ownsRow base' e size v n xs := by
  refine ⟨h.1, ?_⟩
  rcases h.2 with hn | ⟨g, cap, cur, rfl, h1, rest⟩
  · exact .inl hn
  · exact .inr ⟨g, cap, cur, rfl, Nat.le_trans hb h1, rest⟩
set_option maxRecDepth 100000 in
set_option maxHeartbeats 1000000 in
theorem owner_6 (hC : CompileOk) (X : Oth) (B n : Nat) (o : Opr) (w : World) (h : LSE X w B n) (hk : o.kind = 6) : Calls Tryz.prog 33 #[.pointer (some ⟨B, 0, none⟩), opV o] w (OwnPost X w B n true) := by
  obtain ⟨s, t, la, lb, cv, l, vs, F, h⟩ := h
  have H : Hid (LS X w B n s t la lb cv l vs F) := h
  have hl := h.lw.lt
  have hne : ¬ B = w.heap.size := by omega
  have hne' : ¬ w.heap.size = B := by omega
  have c0 := h.lw.c0
  have c1 := h.lw.c1
  have c4 := h.lw.c4
  have fz := h.lw.fz
  clear h
  unfold opV
  rw [hk]
  go_enter Tryz.func33, Tryz.ntmps33
  go_wp2
  go_region_with ((go_at_call 62; refine (hC s t _ H.out.hs H.out.ht).mono ?_; rintro e1 w1 ⟨k1, v, f, l2, rfl, hf⟩))
  all_goals
    have K1 : Hid (Nw w w1) := (((Kp.refl _ w).alloc _).drew).trans k1
    have hsz : w.heap.size + 1 ≤ w1.heap.size := by have := k1.size; simp at this; omega
    have L1 : Hid (LS X w1 B n s t la lb cv l vs F) := H.out.nw K1.out
    have HF : Hid (f = 0 → w1.ownsRow (B + 1) 40 14 v l2.length (codeC l2) ∧ l2.length ≤ 10000 ∧ ∀ b, v.ownBlock = some b → ¬ F b) := by
      intro e
      obtain ⟨h1, h2⟩ := hf e
      refine ⟨owns_base h1 (by simp; omega), h2, fun b hb hf => ?_⟩
      have h5 := (h1.lt b hb).1
      have h6 := X.lt H.out.oth hf
      simp at h5
      omega
    have d4 := L1.out.lw.c4
    have dz := L1.out.lw.fz
    have hl1 := L1.out.lw.lt
    clear hf k1 c0 c1 c4 fz
    by_cases h0 : f = 0
    · subst h0
      obtain ⟨h1, h2, h4⟩ := HF.out rfl
      obtain ⟨p, c, rfl⟩ := owns_len2 h1
      have h3 : Hid (LS X (w1.setCell ⟨B, 4, none⟩ (.slice p l2.length c)) B n s t la lb (.slice p l2.length c) l2 vs F) := ⟨L1.out.lw.set4 _, owns_setB h1 _ _, by omega, L1.out.hs, L1.out.ht, L1.out.othB _ _, L1.out.above, h4⟩
      clear h1 h4 HF
      go_wp2
      go_ret
      exact ⟨rfl, ⟨_, _, _, _, _, _, _, _, h3.out⟩, (K1.out.mono (fun _ _ h => False.elim h)).setCell (p := ⟨B, 4, none⟩) (Or.inr (Nat.le_refl B)) _⟩
    · have h0' : (f == 0) = false := by simp [h0]
      go_wp2
      go_ret
      exact ⟨rfl, ⟨_, _, _, _, _, _, _, _, L1.out⟩, K1.out.mono (fun _ _ h => False.elim h)⟩
end Go.Proofs.YtcboiapggnmpfaaGreat
