/- Walks: spotterref: a chain to targets. -/
import Derived.Test.YtcboiapggnmpfaaGreatHa
import Derived.Test.YtcboiapggnmpfaaGreatQk
import Derived.Deep.DeepCutAuto
namespace Go.Proofs.YtcboiapggnmpfaaGreat
open Go.RowKit
set_option linter.unusedSimpArgs false
set_option linter.unusedVariables false

theorem oneCellsI (x : In) : ∀ u ∈ insC x, u.oneCell' = true := by
  intro u hu
  simp only [insC, List.mem_cons, List.not_mem_nil, or_false] at hu
  rcases hu with h | h | h | h | h | h | h | h | h | h | h | h | h | h <;> subst h <;> rfl
theorem codeC_snoc (l : List In) (x : In) : codeC (l ++ [x]) = codeC l ++ insC x := by simp [codeC]
/-- What chained leaves: n instructions more, in the same row or a new one. -/
def ChainPost (B : Nat) (v : Value) (l : List In) (n : Nat) (w : World) (e : Ending) (w' : World) : Prop :=
  ∃ (v' : Value) (l' : List In), e = .returned v' ∧ w'.ownsRow B 40 14 v' l'.length (codeC l') ∧ l'.length = l.length + n ∧ Kp (fun b => v.ownBlock = some b) w w' ∧ Own w v v'
/-- The list while it is chained. -/
structure Chn (w wr : World) (B : Nat) (v0 v : Value) (l : List In) (k m : Nat) : Prop where
  own : wr.ownsRow B 40 14 v l.length (codeC l)
  len : l.length = k + m
  kp : Kp (fun b => v0.ownBlock = some b) w wr
  ow : Own w v0 v
theorem Chn.more {w wr w' : World} {B : Nat} {v0 v v' : Value} {l : List In} {k m : Nat} {x : In} {o1 o2 : Obj} (h : Chn w wr B v0 v l k m) (hg : ((wr.alloc o1).alloc o2).grownBy w' v.ownBlock) (ho : w'.ownsRow B 40 14 v' (l.length + 1) (codeC l ++ insC x)) (hat : ∀ b, v'.ownBlock = some b → v.ownBlock = some b ∨ wr.heap.size ≤ b) : Chn w w' B v0 v' (l ++ [x]) k (m + 1) := by
  have hlen := h.len
  refine ⟨?_, by simp; omega, (((h.kp.alloc _).alloc _).grown hg ?_), h.ow.trans h.kp.size hat⟩
  · have e1 : (l ++ [x]).length = l.length + 1 := by simp
    rw [e1, codeC_snoc]; exact ho
  · intro b hb
    rcases h.ow b hb with e | e
    · exact Or.inr e
    · exact Or.inl e
set_option maxRecDepth 100000 in
set_option maxHeartbeats 4000000 in
theorem chained_any (B : Nat) (lv tv bv : Value) (l : List In) (t b : List Int) (w : World) (ho : w.ownsRow B 40 14 lv l.length (codeC l)) (hB : B ≤ w.heap.size) (ht : IntsR w tv t) (hb : IntsR w bv b) (ht1 : ∀ g, tv.ownBlock = some g → ¬ lv.ownBlock = some g) (hb1 : ∀ g, bv.ownBlock = some g → ¬ lv.ownBlock = some g) (hl : l.length + t.length ≤ 10000) (htl : t.length ≤ 1000) (hbl : b.length ≤ 1000) (hin : ∀ x ∈ t, 0 ≤ x ∧ x < b.length) :
    Calls Tryz.prog 95 #[lv, tv, bv] w (ChainPost B lv l t.length w) := by
  have HT : Hid (IntsR w tv t) := ht
  have HB : Hid (IntsR w bv b) := hb
  have HT1 : Hid (∀ g, tv.ownBlock = some g → ¬ lv.ownBlock = some g) := ht1
  have HB1 : Hid (∀ g, bv.ownBlock = some g → ¬ lv.ownBlock = some g) := hb1
  have HIN : Hid (∀ x ∈ t, 0 ≤ x ∧ x < b.length) := hin
  have HO : Hid (Chn w w B lv lv l l.length 0) := ⟨ho, rfl, Kp.refl _ _, Own.refl _ _⟩
  obtain ⟨tp, tc, rfl⟩ := ht.len
  obtain ⟨bp, bc, rfl⟩ := hb.len
  obtain ⟨i0, hi0, hz0, hz1, hz2⟩ := info_parts Tryz.info40
  clear ho ht hb ht1 hb1 hin
  go_enter Tryz.func95, Tryz.ntmps95
  go_wp2
  go_loopg [0, 7] t.length (fun m v0 v7 wr => ∃ (i : Nat) (l1 : List In), v7 = .int .i64 i ∧ m = t.length - i ∧ i ≤ t.length ∧ Chn w wr B lv v0 l1 l.length i)
  case atStart => exact ⟨0, l, rfl, rfl, by omega, HO.out⟩
  case round =>
    obtain ⟨i, l1, rfl, hm, hi, hC⟩ := hrel
    have C1 : Hid (Chn w wr B lv u0 l1 l.length i) := hC
    obtain ⟨lp, lc, hlv⟩ := owns_lenL hC.own
    have hll := hC.len
    have hsz := hC.kp.size
    subst hlv
    have HTR : Hid (IntsR wr (.slice tp t.length tc) t) := HT.out.kp hC.kp HT1.out
    have HBR : Hid (IntsR wr (.slice bp b.length bc) b) := HB.out.kp hC.kp HB1.out
    clear hC HO
    by_cases hi' : i < t.length
    · obtain ⟨x, hx⟩ : ∃ x, t[i]? = some x := ⟨t[i], by simp [hi']⟩
      obtain ⟨g, c', e', hg, d0⟩ := HTR.out.cell i x hx
      simp only [Value.slice.injEq, true_and] at e'
      obtain ⟨rfl, rfl⟩ := e'
      obtain ⟨x0, x1⟩ := HIN.out x (List.mem_of_getElem? hx)
      obtain ⟨nx, rfl⟩ : ∃ nx : Nat, x = nx := ⟨x.toNat, by omega⟩
      obtain ⟨y, hy⟩ : ∃ y, b[nx]? = some y := ⟨b[nx]'(by omega), List.getElem?_eq_getElem (by omega)⟩
      obtain ⟨g2, c2, e2, hg2, d2⟩ := HBR.out.cell nx y hy
      simp only [Value.slice.injEq, true_and] at e2
      obtain ⟨rfl, rfl⟩ := e2
      have hq1 : ¬ g = wr.heap.size := by omega
      have hq2 : ¬ g2 = wr.heap.size := by omega
      have hnl : (l1.length : Int) + 1 ≤ 20000 := by omega
      generalize hLn : l1.length = ln at *
      have HLn : Hid (l1.length = ln) := hLn
      clear hx hy hLn hll
      by_cases hlast : i + 1 < t.length
      · go_wp2_with (at_builtin; refine wpList_append_lies _ rfl _ _ 28 rfl B 40 i0 (.agg #[.int .i64 0, .int .i64 0, .int .i64 0, .int .i64 0, .int .i64 0, .int .i64 0, .int .i64 0, .int .i64 0, .int .i64 0, .int .i64 0, .int .i64 0, .int .i64 0, .int .i64 0, .int .i64 0]) 14 112 Tryz.underlying28 hi0 hz0 hz1 hz2 rfl (by decide) (.slice lp ln lc) ln (codeC l1) rfl (by have := C1.out.own; rw [HLn.out] at this; exact (this.alloc _).alloc _) ⟨wr.heap.size + 1, 0, none⟩ 1 1 (insC ⟨5, y, (ln : Int) + 1, tst0⟩) rfl rfl (news_snd wr _ _ _) (oneCellsI _) (by decide) (by unfold maxLen; omega) (by omega) (by simp; omega) _ rfl ?_)
        intro g3 cap3 w3 hown3 hgrow3 hat3 hlt3
        have C3 : Hid (Chn w w3 B lv (.slice (some ⟨g3, 0, none⟩) (ln + 1) cap3) (l1 ++ [⟨5, y, (ln : Int) + 1, tst0⟩]) l.length (i + 1)) := by
          exact C1.out.more (x := ⟨5, y, (ln : Int) + 1, tst0⟩) hgrow3 (by rw [HLn.out]; exact hown3) (by
            intro q hq
            simp [Value.ownBlock] at hq
            subst hq
            rcases hat3 with e | e
            · exact Or.inl e
            · exact Or.inr (by omega))
        clear hown3 hgrow3 hat3 C1 HTR HBR
        go_wp2
        go_roundg (t.length - (i + 1))
        case measure => omega
        case rel => exact ⟨i + 1, _, by simp, rfl, by omega, C3.out⟩
      · go_wp2_with (at_builtin; refine wpList_append_lies _ rfl _ _ 28 rfl B 40 i0 (.agg #[.int .i64 0, .int .i64 0, .int .i64 0, .int .i64 0, .int .i64 0, .int .i64 0, .int .i64 0, .int .i64 0, .int .i64 0, .int .i64 0, .int .i64 0, .int .i64 0, .int .i64 0, .int .i64 0]) 14 112 Tryz.underlying28 hi0 hz0 hz1 hz2 rfl (by decide) (.slice lp ln lc) ln (codeC l1) rfl (by have := C1.out.own; rw [HLn.out] at this; exact (this.alloc _).alloc _) ⟨wr.heap.size + 1, 0, none⟩ 1 1 (insC ⟨4, y, 0, tst0⟩) rfl rfl (news_snd wr _ _ _) (oneCellsI _) (by decide) (by unfold maxLen; omega) (by omega) (by simp; omega) _ rfl ?_)
        intro g3 cap3 w3 hown3 hgrow3 hat3 hlt3
        have C3 : Hid (Chn w w3 B lv (.slice (some ⟨g3, 0, none⟩) (ln + 1) cap3) (l1 ++ [⟨4, y, 0, tst0⟩]) l.length (i + 1)) := by
          exact C1.out.more (x := ⟨4, y, 0, tst0⟩) hgrow3 (by rw [HLn.out]; exact hown3) (by
            intro q hq
            simp [Value.ownBlock] at hq
            subst hq
            rcases hat3 with e | e
            · exact Or.inl e
            · exact Or.inr (by omega))
        clear hown3 hgrow3 hat3 C1 HTR HBR
        go_wp2
        go_roundg (t.length - (i + 1))
        case measure => omega
        case rel => exact ⟨i + 1, _, by simp, rfl, by omega, C3.out⟩
    · have ei : i = t.length := by omega
      have HEI : Hid (i = t.length) := ei
      clear ei
      go_wp2
      go_ret
      exact ⟨_, l1, rfl, C1.out.own, by rw [← HEI.out]; exact C1.out.len, C1.out.kp, C1.out.ow⟩
end Go.Proofs.YtcboiapggnmpfaaGreat
