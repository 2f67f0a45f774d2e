/- The row of Checks. -/
import Derived.Test.YtcboiapggnmpfaaGreatQz
import Derived.Test.YtcboiapggnmpfaaGreatNq
import Derived.Deep.MidRow
import Derived.Test.YtcboiapggnmpfaaGreatCg
import Derived.Test.YtcboiapggnmpfaaGreatHf
import Derived.Test.YtcboiapggnmpfaaGreatQx
import Derived.Test.YtcboiapggnmpfaaGreatNa
namespace Go.Proofs.YtcboiapggnmpfaaGreat
open Go.ChangeShapes Go.WideShapes Go.ChangeAt Go.RowKit Go.Deep
set_option linter.unusedSimpArgs false
set_option linter.unusedVariables false

theorem Tryz.by44 : Tryz.prog.bytesOf 44 = 192 := by kernel_rfl
theorem Tryz.us22 : Tryz.prog.underlying 22 = some (.slice 44) := by kernel_rfl
theorem Tryz.ub4 : Tryz.prog.underlying 4 = some .bool := by kernel_rfl
/-- What is asked of the law: it answers true of every script. -/
def ChecksV : Prop := ∀ (p : Option Addr) (cap : Nat) (os : List Opr) (w : World), OpsP w p os → (∀ o ∈ os, o.Fit) → os.length ≤ 740000000000 → Calls Tryz.prog 3 #[.slice p os.length cap] w fun e w' => e = .returned (.bool true) ∧ Nw w w'
/-- The script's steps, off their cells. -/
theorem ops_of {H : Type} {enc : TypeId × Value → H} {W : World} {base : Nat} {spare : Nat → Bool} {held : Bool} {a : Addr} {m n : Nat} {D : Nat → DataW H} {Pl : Nat → List MemPlace}
    (h : ∀ i, i < m → ∃ cs', W.cells? base (a.add (i * Tryz.prog.cellsOf 44)) (Tryz.prog.cellsOf 44) = some cs' ∧ DataW.trod enc Tryz.prog W base spare held n 44 cs' = some (D i, Pl i)) (len : Nat) (hl : len ≤ m) :
    ∃ os : List Opr, os.length = len ∧ (∀ o ∈ os, o.Fit) ∧ OpsP W (some a) os := by
  have hex : ∀ i, ∃ o : Opr, i < len → o.Fit ∧ ∀ k v, (opC o)[k]? = some v → W.cell? ((a.add (i * 23)).add k) = some v := by
    intro i
    by_cases hi : i < len
    · obtain ⟨cs', hc, ht⟩ := h i (by omega)
      rw [Tryz.cn44] at hc
      obtain ⟨o, rfl, hf⟩ := opr_of ht
      obtain ⟨_, hl3, hcell⟩ := World.cells?_some hc
      refine ⟨o, fun _ => ⟨hf, fun k v hv => ?_⟩⟩
      have hk : k < 23 := by have := (List.getElem?_eq_some_iff.1 hv).1; rwa [opC_length] at this
      rw [hcell k hk]; exact hv
    · exact ⟨⟨0, 0, 0, ⟨#[]⟩, in0, (0, 0, 0, 0, 0)⟩, fun h => absurd h hi⟩
  refine ⟨(List.range len).map (fun i => Classical.choose (hex i)), by simp, ?_, ?_⟩
  · intro o ho
    obtain ⟨i, hi, rfl⟩ := List.mem_map.1 ho
    exact (Classical.choose_spec (hex i) (by simpa using hi)).1
  · intro hne
    have hlen : 0 < len := by
      rcases Nat.eq_zero_or_pos len with e | e
      · exact absurd (List.eq_nil_of_length_eq_zero (by simp [e])) hne
      · exact e
    obtain ⟨b, off, spot⟩ := a
    have h00 := (Classical.choose_spec (hex 0) hlen).2 0 _ rfl
    have hspot : spot = none := by simpa [Addr.add] using World.cell?_spot h00
    subst hspot
    have hadd : ∀ i k : Nat, ((⟨b, off, none⟩ : Addr).add (i * 23)).add k = ⟨b, off + i * 23 + k, none⟩ := by
      intro i k
      rw [Addr.add_mid, Addr.add_mid]
    refine ⟨b, off, rfl, ?_, ?_⟩
    · rw [hadd] at h00
      exact World.block_lt_of_cell? W ⟨b, off + 0 * 23 + 0, none⟩ h00
    · intro i x hx
      rw [List.getElem?_map] at hx
      obtain ⟨j, hj, rfl⟩ := Option.map_eq_some_iff.1 hx
      obtain ⟨hj1, hj2⟩ := List.getElem?_eq_some_iff.1 hj
      simp at hj1 hj2
      subst hj2
      intro k v hv
      have := (Classical.choose_spec (hex i) hj1).2 k v hv
      rw [hadd] at this; exact this
set_option maxHeartbeats 1600000 in
set_option maxRecDepth 100000 in
theorem checks_lifted (hCV : ChecksV) (os : Os) (started : os.Started) (H : Type) (enc : TypeId × Value → H) :
    ReturnsInHanded {} Tryz.checked os 3 .any (Rows.checksSpec.pre6 enc Tryz.prog Tryz.f3 Rows.checksRow.domain false) (Rows.checksSpec.post enc Tryz.prog Tryz.f3 false true false false) := by
  refine returnsInHanded_of_change_sized (C := Tryz.checked) Tryz.own started (by kernel_rfl) Tryz.func3
    (ChangeSpec.witness6 (enc := enc) (C := Tryz.checked) false ⟨#[], #[.slice none 0 0], []⟩ 8 (by kernel_rfl) (by kernel_rfl) (by kernel_rfl) (by kernel_rfl)) ?_
  intro W base args ds gs before hval0 hW _ hsz0 _
  have hsz : (DataW.weightsEach Tryz.prog (Tryz.f3.params.toList ++ Rows.checksSpec.plain.varTypes Tryz.prog) (ds ++ gs)).all (· ≤ reachBytes) = true := hsz0
  clear hsz0
  have hval : ∀ (j : Nat) t v, Tryz.f3.params[j]? = some t → args[j]? = some v → Value.okWide Tryz.prog W .any base t v := hval0
  have hW' := hW
  obtain ⟨p, q, hA0, hV, rfl, hfz, _⟩ := hW
  have hA : DataW.TrodAll enc Tryz.prog W 0 (fun _ => true) true Tryz.f3.params.toList args.toList ds p := hA0
  rw [Tryz.params3] at hA hval hsz
  obtain ⟨v0, d0, rfl, rfl, h0⟩ := trodAll_one hA
  obtain ⟨rfl, rfl⟩ := trodVars_none hV
  obtain ⟨a0, len, cap, rfl⟩ := okWide_slice Tryz.us22 (hval 0 22 v0 rfl rfl)
  have h0k := h0
  obtain ⟨fuel, hf⟩ := h0
  clear hA0 hval0 hA
  simp only [List.append_nil] at hW' hfz hsz
  have hlt : ∀ x ∈ p, x.block < W.heap.size := fun x hx => hW'.lt x (by simp [hx])
  have key : Calls Tryz.prog 3 #[.slice a0 len cap] W fun e W' => e = .returned (.bool true) ∧ Nw W W' := by
    rcases open_slice Tryz.us22 hf with ⟨hcs, hx⟩ | ⟨a, len', cap', m, n, D, Pl, hcs, _, hl, hm, hmm, hx, hel⟩
    · simp [Value.cells] at hcs
      obtain ⟨rfl, rfl, rfl⟩ := hcs
      exact hCV none 0 [] W (fun h => absurd rfl h) (by simp) (by simp)
    · simp [Value.cells] at hcs
      obtain ⟨rfl, rfl, rfl⟩ := hcs
      simp only [Prod.mk.injEq] at hx
      obtain ⟨rfl, rfl⟩ := hx
      have hout := sized_slice hsz (j := 0) (t := 22) (e := 44) rfl rfl Tryz.us22
      simp only [List.length_map, List.length_range, Tryz.by44] at hout
      have hr : reachBytes = 140737488351232 := rfl
      rw [hr] at hout
      have hlm : len ≤ m := by rw [hmm]; split <;> omega
      obtain ⟨os', h1, h2, h3⟩ := ops_of hel len hlm
      have := hCV (some a) cap os' W h3 h2 (by rw [h1]; omega)
      rw [h1] at this
      exact this
  refine key.mono fun e W' ⟨he, hk⟩ => ?_
  subst he
  have hb : Below W.heap.size W W' := hk.toBelow (Nat.le_refl _) (fun _ h => False.elim h)
  exact ⟨_, rfl, ⟨_, _, _, [], _, [], hW', trodAll_mk1 (shut_bool Tryz.ub4 true), trodAll_mk1 (Below.trod Tryz.laidOut (by kernel_rfl) (of_decide_eq_true (by kernel_rfl)) h0k hb hlt), rfl, hb.frame _, fun h => by cases h⟩⟩
theorem checks_of (hCV : ChecksV) : Rows.ChecksSaid :=
  OpenClaim.holds_of_wide 3 Tryz.f3 rfl rfl rfl rfl rfl rfl rfl ⟨rfl, rfl, rfl, rfl, rfl⟩ rfl rfl rfl rfl rfl (by kernel_rfl) Tryz.func3 cf_closed
    (of_decide_eq_true (by kernel_rfl)) (by unfold Func.isWrapper; first | (rw [if_pos (by decide +kernel)]; kernel_rfl) | (rw [if_neg (by decide +kernel)]; exact ⟨rfl, rfl⟩))
    (fun os started H enc _ => checks_lifted hCV os started H enc)
end Go.Proofs.YtcboiapggnmpfaaGreat

namespace Go.Proofs.YtcboiapggnmpfaaGreat

theorem stepOk_all : ∀ (P : CuP) (B : Nat) (L : List Tok) (root win : Int), StepOk P B L root win := fun P B L root win s u lo hy hS => atomStep_any P B L root win lo (lo + u.length) s u hy hS rfl
theorem compileOk_all : CompileOk := by
  intro s t w hs ht
  refine (compile_ref stepOk_all s t w hs ht).mono ?_
  rintro e w' ⟨h1, h2⟩
  exact ⟨h1, h2⟩
theorem checks_holds : Rows.ChecksSaid := checks_of (checksV compileOk_all (fun sc s w hsc hs => checkP_any sc s w hsc hs) (fun sc s w hsc hs => checkS_ref stepOk_all sc s hsc hs w))
#print axioms checks_holds
end Go.Proofs.YtcboiapggnmpfaaGreat
