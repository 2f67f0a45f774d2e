/- Walks: spotterlaw: sameCode of lists that read alike, still. -/
import Derived.Test.YtcboiapggnmpfaaGreatVf
import Derived.Test.YtcboiapggnmpfaaGreatQk
import Derived.Deep.QuietTactic
namespace Go.Proofs.YtcboiapggnmpfaaGreat
open Go.RowKit
set_option linter.unusedSimpArgs false
set_option linter.unusedVariables false

set_option maxRecDepth 100000 in
set_option maxHeartbeats 1000000 in
theorem sameCode_same (p p' : Option Addr) (cap cap' : Nat) (l : List In) (w : World) (hp : CodeP w p l) (hp' : CodeP w p' l) (hm : l.length ≤ 800000000000) :
    Calls Tryz.prog 46 #[.slice p l.length cap, .slice p' l.length cap'] w fun e w' => e = .returned (.bool true) ∧ Nw w w' := by
  go_enter Tryz.func46, Tryz.ntmps46
  go_wp2
  go_loopg [5] l.length (fun m v5 wr => ∃ i : Nat, v5 = .int .i64 i ∧ m = l.length - i ∧ i ≤ l.length ∧ CodeP wr p l ∧ CodeP wr p' l ∧ Nw w wr)
  case atStart => exact ⟨0, rfl, rfl, by omega, hp, hp', Kp.refl _ _⟩
  case round =>
    obtain ⟨i, rfl, hm', hi, hc, hc', hnw⟩ := hrel
    by_cases hi' : i < l.length
    · obtain ⟨x, hx⟩ : ∃ x, l[i]? = some x := ⟨l[i], by simp [hi']⟩
      have hne : ¬ l = [] := by intro e; rw [e] at hx; simp at hx
      obtain ⟨g, rfl, hcr⟩ := hc hne
      obtain ⟨g', rfl, hcr'⟩ := hc' hne
      obtain ⟨c0, c1, c2, c3, c4, c5, c6, c7, c8, c9, c10, c11, c12, c13⟩ := (hcr.ins i x hx).cells
      obtain ⟨d0, d1, d2, d3, d4, d5, d6, d7, d8, d9, d10, d11, d12, d13⟩ := (hcr'.ins i x hx).cells
      have HP : Hid (CodeP wr (some ⟨g, 0, none⟩) l) := hc
      have HP' : Hid (CodeP wr (some ⟨g', 0, none⟩) l) := hc'
      have HK : Hid (Nw w wr) := hnw
      clear hc hc' hnw hcr hcr' hp hp'
      go_wp2
      go_quiet (fail)
      go_wp2
      go_roundg (l.length - (i + 1))
      case measure => omega
      case rel =>
        refine ⟨i + 1, by simp, rfl, by omega, HP.out.nw ?_, HP'.out.nw ?_, HK.out.trans ?_⟩ <;> exact (Kp.refl _ _).drewN _
    · go_wp2
      go_ret
      exact ⟨rfl, hnw⟩
set_option maxRecDepth 100000 in
set_option maxHeartbeats 1000000 in
/-- A list that was handed over and reads as it did, its spare room too. -/
theorem still_same (g cap : Nat) (p : Option Addr) (l : List In) (w : World) (ho : Code' w g (l ++ [mk1, mk2])) (hp : CodeP w p l) (hm : l.length ≤ 800000000000) :
    Calls Tryz.prog 67 #[.slice (some ⟨g, 0, none⟩) l.length (l.length + 2), .slice p l.length cap] w fun e w' => e = .returned (.bool true) ∧ Nw w w' := by
  have hgl : Code' w g l := by
    refine ⟨ho.lt, fun i x hx => ho.ins i x ?_⟩
    rw [List.getElem?_append_left (List.getElem?_eq_some_iff.1 hx).1]; exact hx
  have h1 : InsAt w g (l.length * 14) mk1 := ho.ins l.length mk1 (by simp)
  have h2 : InsAt w g ((l.length + 1) * 14) mk2 := ho.ins (l.length + 1) mk2 (by simp)
  go_enter Tryz.func67, Tryz.ntmps67
  go_wp2_with fail
  refine (sameCode_same (some ⟨g, 0, none⟩) p (l.length + 2) cap l w (fun _ => ⟨g, rfl, hgl⟩) hp hm).mono ?_
  rintro e w2 ⟨rfl, k2⟩
  have h1' : InsAt w2 g (l.length * 14) mk1 := fun k v hv => (k2.cell (p := ⟨g, l.length * 14 + k, none⟩) ho.lt (fun h => h)).trans (h1 k v hv)
  have h2' : InsAt w2 g ((l.length + 1) * 14) mk2 := fun k v hv => (k2.cell (p := ⟨g, (l.length + 1) * 14 + k, none⟩) ho.lt (fun h => h)).trans (h2 k v hv)
  obtain ⟨c0, c1, c2, c3, c4, c5, c6, c7, c8, c9, c10, c11, c12, c13⟩ := h1'.cells
  obtain ⟨d0, d1, d2, d3, d4, d5, d6, d7, d8, d9, d10, d11, d12, d13⟩ := h2'.cells
  simp only [mk1, mk2, tst0, tm0] at *
  clear h1 h2 h1' h2' ho hp hgl
  go_wp2
  go_ret
  exact ⟨rfl, k2⟩
end Go.Proofs.YtcboiapggnmpfaaGreat
