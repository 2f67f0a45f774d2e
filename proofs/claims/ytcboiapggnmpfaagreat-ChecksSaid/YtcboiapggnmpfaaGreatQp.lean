/- Walks: kinds. -/
import Derived.Test.YtcboiapggnmpfaaGreatQo
import Derived.Test.YtcboiapggnmpfaaGreatQa
import Derived.Test.YtcboiapggnmpfaaGreatQk
namespace Go.Proofs.YtcboiapggnmpfaaGreat
open Go.RowKit
set_option linter.unusedSimpArgs false
set_option linter.unusedVariables false

/-- The fields of kind i, by a schema's bytes. -/
def scF (l : List Int) (i : Nat) : Int := if h : i < l.length then l[i] - 48 else 0
/-- A schema as the program has it. -/
def schC (l : List Int) (n : Int) (k : Nat) : List Value := [.int .i64 n, .int .i64 (if 0 < k then scF l 0 else 0), .int .i64 (if 1 < k then scF l 1 else 0), .int .i64 (if 2 < k then scF l 2 else 0), .int .i64 (if 3 < k then scF l 3 else 0)]
def schV (l : List Int) : Value := .agg #[.int .i64 l.length, .int .i64 (scF l 0), .int .i64 (scF l 1), .int .i64 (scF l 2), .int .i64 (scF l 3)]
def hasK (l : List Int) (k : Int) : Bool := decide (0 ≤ k) && decide (k < l.length)
def hasFd (l : List Int) (k f : Int) : Bool := decide (f = 0) || (hasK l k && decide (1 ≤ f) && decide (f ≤ scF l k.toNat))
theorem has_any (l : List Int) (k : Int) (w : World) (hl : l.length ≤ 4) :
    Calls Tryz.prog 130 #[schV l, .int .i64 k] w fun e w' => e = .returned (.bool (hasK l k)) ∧ Nw w w' := by
  unfold schV hasK
  by_cases h0 : 0 ≤ k
  · have h1 : decide (0 ≤ k) = true := decide_eq_true h0
    rw [h1]
    go_enter Tryz.func130, Tryz.ntmps130
    go_wp2
    go_ret
    exact ⟨by simp, (Kp.refl _ _).alloc _⟩
  · have h1 : decide (0 ≤ k) = false := decide_eq_false h0
    rw [h1]
    go_enter Tryz.func130, Tryz.ntmps130
    go_wp2
    go_ret
    exact ⟨by simp, (Kp.refl _ _).alloc _⟩
set_option maxRecDepth 100000 in
set_option maxHeartbeats 1000000 in
theorem hasField_any (l : List Int) (k f : Int) (w : World) (hl : l.length ≤ 4) :
    Calls Tryz.prog 136 #[schV l, .int .i64 k, .int .i64 f] w fun e w' => e = .returned (.bool (hasFd l k f)) ∧ Nw w w' := by
  by_cases hf : f = 0
  · subst hf
    have e : hasFd l k 0 = true := by simp [hasFd]
    rw [e]
    unfold schV
    go_enter Tryz.func136, Tryz.ntmps136
    go_wp2
    go_ret
    exact ⟨rfl, (Kp.refl _ _).alloc _⟩
  · have hf' : (f == 0) = false := by simp [hf]
    have e : hasFd l k f = (hasK l k && decide (1 ≤ f) && decide (f ≤ scF l k.toNat)) := by simp [hasFd, hf]
    rw [e]
    generalize hk : hasK l k = K
    have HK : Hid (hasK l k = K) := hk
    have hkb : K = true → 0 ≤ k ∧ k < 4 := by
      intro h
      rw [← hk] at h
      simp only [hasK, Bool.and_eq_true, decide_eq_true_eq] at h
      omega
    clear hk e hf
    unfold schV
    go_enter Tryz.func136, Tryz.ntmps136
    go_wp2_with fail
    refine (has_any l k _ hl).mono ?_
    rw [HK.out]
    rintro e1 w1 ⟨rfl, k1⟩
    obtain ⟨kk, hlt, ⟨kc, kz⟩⟩ := k1.box (fun h => h)
    have K1 : Hid (Nw w w1) := kk
    clear k1 kk
    cases K with
    | false =>
      go_wp2
      go_ret
      exact ⟨by simp, K1.out⟩
    | true =>
      obtain ⟨h0, h4⟩ := hkb rfl
      clear hkb
      have hk4 : k = 0 ∨ k = 1 ∨ k = 2 ∨ k = 3 := by omega
      rcases hk4 with rfl | rfl | rfl | rfl
      all_goals
        by_cases h1 : 1 ≤ f
        · have h1' : decide (1 ≤ f) = true := decide_eq_true h1
          go_wp2
          go_ret
          exact ⟨ret_b (by simp [h1]), K1.out⟩
        · have h1' : decide (1 ≤ f) = false := decide_eq_false h1
          go_wp2
          go_ret
          exact ⟨ret_b (by simp; intro h; omega), K1.out⟩
theorem results_ct {fn : Func} {a u : Tmp} {t : TypeId} (h : fn.results = #[.cell a t, .tmp u]) (tmps : Array Value) (P : Program) (w : World) (b : Addr) (hp : tmps.getD a undef = .pointer (some b)) (x : Value) (hl : (loadVar t b).run P w = .ok x w) : (results fn tmps).run P w = .ok (.tuple #[x, tmps.getD u undef]) w := by
  have hp' : tmps[a]?.getD undef = .pointer (some b) := by simpa using hp
  simp [results, h, hp', asAddr, hl]
theorem Tryz.rowK : (Tryz.prog.underlying 114).map TypeDesc.isRow = some true := by kernel_rfl
theorem Tryz.sizeK : (Tryz.prog.info? 114).map (·.size) = some 5 := by kernel_rfl
/-- Five whole numbers in a block. -/
structure F5 (w : World) (B : Nat) (a b c d e : Int) : Prop where
  c0 : w.cell? ⟨B, 0, none⟩ = some (.int .i64 a)
  c1 : w.cell? ⟨B, 1, none⟩ = some (.int .i64 b)
  c2 : w.cell? ⟨B, 2, none⟩ = some (.int .i64 c)
  c3 : w.cell? ⟨B, 3, none⟩ = some (.int .i64 d)
  c4 : w.cell? ⟨B, 4, none⟩ = some (.int .i64 e)
  fz : ∀ o, w.frozen? ⟨B, o, none⟩ = false
theorem F5.load {w : World} {B : Nat} {a b c d e : Int} (h : F5 w B a b c d e) : (loadVar 114 ⟨B, 0, none⟩).run Tryz.prog w = .ok (.agg #[.int .i64 a, .int .i64 b, .int .i64 c, .int .i64 d, .int .i64 e]) w := by
  obtain ⟨dd, hu, hd⟩ := Option.map_eq_some_iff.1 Tryz.rowK
  refine run_loadVar_mid w B 0 114 [.int .i64 a, .int .i64 b, .int .i64 c, .int .i64 d, .int .i64 e] dd ?_ hu hd Tryz.sizeK
  intro k v hv
  rw [Nat.zero_add]
  match k, hv with
  | 0, hv => simp at hv; rw [h.c0, hv]
  | 1, hv => simp at hv; rw [h.c1, hv]
  | 2, hv => simp at hv; rw [h.c2, hv]
  | 3, hv => simp at hv; rw [h.c3, hv]
  | 4, hv => simp at hv; rw [h.c4, hv]
theorem F5.new (w : World) (t : TypeId) {B : Nat} (hB : B = w.heap.size) : F5 (w.alloc (.cells #[.int .i64 0, .int .i64 0, .int .i64 0, .int .i64 0, .int .i64 0] t)) B 0 0 0 0 0 := by
  subst hB
  constructor <;> simp [go_sem, World.cell?_alloc_at, World.frozen?_alloc_at]
theorem F5.sm {w w' : World} {B : Nat} {a b c d e : Int} (h : F5 w B a b c d e) (s : Sm w w' B) : F5 w' B a b c d e :=
  ⟨(s.cell 0).trans h.c0, (s.cell 1).trans h.c1, (s.cell 2).trans h.c2, (s.cell 3).trans h.c3, (s.cell 4).trans h.c4, fun o => (s.froz o).trans (h.fz o)⟩
theorem F5.lt {w : World} {B : Nat} {a b c d e : Int} (h : F5 w B a b c d e) : B < w.heap.size := World.block_lt_of_cell? w ⟨B, 0, none⟩ h.c0
def fK (l : List Int) (k j : Nat) : Int := if j < k then scF l j else 0
def digB (c : Int) : Bool := c == 48 || c == 49 || c == 50 || c == 51
theorem digB_iff (c : Int) : digB c = true ↔ 48 ≤ c ∧ c ≤ 51 := by simp [digB]; omega
theorem bI_get (s : ByteArray) (k : Nat) (h : k < s.size) : (bI s)[k]? = some (s[k].toNat : Int) := by
  have := bI_drop s k h
  have h2 : ((bI s).drop k)[0]? = some (s[k].toNat : Int) := by rw [this]; rfl
  simpa using h2
theorem scF_at (s : ByteArray) (k : Nat) (h : k < s.size) : scF (bI s) k = (s[k].toNat : Int) - 48 := by
  have hl : k < (bI s).length := by rw [bI_length]; exact h
  have := bI_get s k h
  rw [List.getElem?_eq_getElem hl] at this
  simp only [Option.some.injEq] at this
  simp [scF, hl, this]
theorem fK_step (l : List Int) (k j : Nat) : fK l (k + 1) j = if j = k then scF l j else fK l k j := by
  unfold fK
  by_cases h : j = k
  · subst h; simp
  · rw [if_neg h]
    by_cases h2 : j < k
    · rw [if_pos h2, if_pos (by omega)]
    · rw [if_neg h2, if_neg (by omega)]
def KindsPost (s : ByteArray) (w : World) (e : Ending) (w' : World) : Prop :=
  Nw w w' ∧ ((schemaB (bI s) = true ∧ e = .returned (.tuple #[schV (bI s), .bool true])) ∨ (schemaB (bI s) = false ∧ e = .returned (.tuple #[.agg #[.int .i64 0, .int .i64 0, .int .i64 0, .int .i64 0, .int .i64 0], .bool false])))
set_option maxRecDepth 100000 in
set_option maxHeartbeats 1000000 in
theorem readK_any (s : ByteArray) (w : World) (hs : s.size ≤ maxLen) : Calls Tryz.prog 80 #[.string s] w (KindsPost s w) := by
  unfold maxLen at hs
  have HF : Hid (∀ W : World, F5 W w.heap.size 0 0 0 0 0 → F5 (((((W.setCell ⟨w.heap.size, 0, none⟩ (.int .i64 0)).setCell ⟨w.heap.size, 1, none⟩ (.int .i64 0)).setCell ⟨w.heap.size, 2, none⟩ (.int .i64 0)).setCell ⟨w.heap.size, 3, none⟩ (.int .i64 0)).setCell ⟨w.heap.size, 4, none⟩ (.int .i64 0)) w.heap.size 0 0 0 0 0) := by
    rintro W ⟨c0, c1, c2, c3, c4, fz⟩
    constructor <;> simp [go_sem, c0, c1, c2, c3, c4, fz]
  have HK : Hid (∀ W : World, Nw w W → ∀ a b c d e, Nw w (((((W.setCell ⟨w.heap.size, 0, none⟩ a).setCell ⟨w.heap.size, 1, none⟩ b).setCell ⟨w.heap.size, 2, none⟩ c).setCell ⟨w.heap.size, 3, none⟩ d).setCell ⟨w.heap.size, 4, none⟩ e)) := fun W k a b c d e => ((((k.setCell (p := ⟨w.heap.size, 0, none⟩) (Or.inl (Nat.le_refl _)) _).setCell (p := ⟨w.heap.size, 1, none⟩) (Or.inl (Nat.le_refl _)) _).setCell (p := ⟨w.heap.size, 2, none⟩) (Or.inl (Nat.le_refl _)) _).setCell (p := ⟨w.heap.size, 3, none⟩) (Or.inl (Nat.le_refl _)) _).setCell (p := ⟨w.heap.size, 4, none⟩) (Or.inl (Nat.le_refl _)) _
  by_cases h0 : s.size < 1 ∨ 4 < s.size
  · have hsb : schemaB (bI s) = false := by
      simp only [schemaB, bI_length, Bool.and_eq_false_iff, decide_eq_false_iff_not]
      rcases h0 with h | h
      · exact Or.inl (Or.inr (by omega))
      · exact Or.inr (by omega)
    have HSB : Hid (schemaB (bI s) = false) := hsb
    clear hsb
    rcases h0 with h | h
    all_goals
      go_enter Tryz.func80, Tryz.ntmps80
      go_wp2
      refine bodyPost_ret (results_ct Tryz.results80 _ _ _ ⟨w.heap.size, 0, none⟩ rfl _ (((F5.new w _ rfl).sm (((Kp.refl (fun _ => False) _).alloc _).sm (F5.new w _ rfl).lt (fun h => h))).load)) rfl ?_
      exact ⟨((Kp.refl _ _).alloc _).alloc _, Or.inr ⟨HSB.out, rfl⟩⟩
  · have hs1 : 1 ≤ s.size := by omega
    have hs4 : s.size ≤ 4 := by omega
    clear h0
    go_enter Tryz.func80, Tryz.ntmps80
    go_wp2
    go_loopg [5] s.size (fun m v5 wr => ∃ i : Nat, v5 = .int .i64 i ∧ m = s.size - i ∧ i ≤ s.size ∧ (∀ (j : Nat) (h : j < s.size), j < i → digB (s[j].toNat : Int) = true) ∧ F5 wr w.heap.size 0 0 0 0 0 ∧ F5 wr (w.heap.size + 1) 0 (fK (bI s) i 0) (fK (bI s) i 1) (fK (bI s) i 2) (fK (bI s) i 3) ∧ Nw w wr)
    case atStart =>
      have h1 := (F5.new w 114 (B := w.heap.size) rfl)
      refine ⟨0, rfl, rfl, by omega, (fun j _ h => by omega), h1.sm (((Kp.refl (fun _ => False) _).alloc _).sm h1.lt (fun h => h)), F5.new _ _ (by simp), ((Kp.refl _ _).alloc _).alloc _⟩
    case round =>
      obtain ⟨i, rfl, hm, hi, hd, f1, f2, hk⟩ := hrel
      have HD : Hid (∀ (j : Nat) (h : j < s.size), j < i → digB (s[j].toNat : Int) = true) := hd
      have HM : Hid (_ = s.size - i) := hm
      have F1 : Hid (F5 wr w.heap.size 0 0 0 0 0) := f1
      have F2 : Hid (F5 wr (w.heap.size + 1) 0 (fK (bI s) i 0) (fK (bI s) i 1) (fK (bI s) i 2) (fK (bI s) i 3)) := f2
      have HN : Hid (Nw w wr) := hk
      have hlt := f2.lt
      clear hd hm hk
      by_cases hil : i < s.size
      · have hb1 : (s[i].toNat : Int) ≤ 255 := by have := s[i].toNat_lt; omega
        have HSC : Hid (scF (bI s) i = (s[i].toNat : Int) - 48) := scF_at s i hil
        by_cases hdg : digB (s[i].toNat : Int) = true
        · have hbd := (digB_iff _).1 hdg
          have HDG : Hid (digB (s[i].toNat : Int) = true) := hdg
          obtain ⟨c0, c1, c2, c3, c4, fz⟩ := f2
          have hi4 : i = 0 ∨ i = 1 ∨ i = 2 ∨ i = 3 := by omega
          have HNX : Hid (∀ j (h : j < s.size), j < i + 1 → digB (s[j].toNat : Int) = true) := by
            intro j h hj
            by_cases e : j = i
            · subst e; exact HDG.out
            · exact HD.out j h (by omega)
          clear f1 hdg
          have HW : Hid (∀ v : Int, v = scF (bI s) i → F5 (wr.setCell ⟨w.heap.size + 1, 1 + i, none⟩ (.int .i64 v)) (w.heap.size + 1) 0 (fK (bI s) (i + 1) 0) (fK (bI s) (i + 1) 1) (fK (bI s) (i + 1) 2) (fK (bI s) (i + 1) 3)) := by
            rintro v rfl
            rcases hi4 with rfl | rfl | rfl | rfl <;> (constructor <;> simp [go_sem, c0, c1, c2, c3, c4, fz, fK_step])
          have HW1 : Hid (∀ v, F5 (wr.setCell ⟨w.heap.size + 1, 1 + i, none⟩ v) w.heap.size 0 0 0 0 0) := fun v => F1.out.sm (((Kp.refl (fun b => b = w.heap.size + 1) wr).setCell (p := ⟨w.heap.size + 1, 1 + i, none⟩) (Or.inr rfl) v).sm F1.out.lt (by omega))
          have HW2 : Hid (∀ v, Nw w (wr.setCell ⟨w.heap.size + 1, 1 + i, none⟩ v)) := fun v => HN.out.setCell (p := ⟨w.heap.size + 1, 1 + i, none⟩) (Or.inl (by show w.heap.size ≤ w.heap.size + 1; omega)) v
          rcases hi4 with hi4 | hi4 | hi4 | hi4
          · subst hi4
            go_wp2
            go_roundg (s.size - (0 + 1))
            case measure => rw [HM.out]; omega
            case rel => exact ⟨0 + 1, by simp, rfl, by omega, HNX.out, HW1.out _, HW.out _ (by rw [HSC.out]), HW2.out _⟩
          · subst hi4
            go_wp2
            go_roundg (s.size - (1 + 1))
            case measure => rw [HM.out]; omega
            case rel => exact ⟨1 + 1, by simp, rfl, by omega, HNX.out, HW1.out _, HW.out _ (by rw [HSC.out]), HW2.out _⟩
          · subst hi4
            go_wp2
            go_roundg (s.size - (2 + 1))
            case measure => rw [HM.out]; omega
            case rel => exact ⟨2 + 1, by simp, rfl, by omega, HNX.out, HW1.out _, HW.out _ (by rw [HSC.out]), HW2.out _⟩
          · subst hi4
            go_wp2
            go_roundg (s.size - (3 + 1))
            case measure => rw [HM.out]; omega
            case rel => exact ⟨3 + 1, by simp, rfl, by omega, HNX.out, HW1.out _, HW.out _ (by rw [HSC.out]), HW2.out _⟩
        · have HSB : Hid (schemaB (bI s) = false) := by
            show _ = _
            have hx := List.mem_of_getElem? (bI_get s i hil)
            cases hsb : schemaB (bI s) with
            | false => rfl
            | true =>
              simp only [schemaB, Bool.and_eq_true, List.all_eq_true] at hsb
              exact absurd (hsb.1.1 _ hx) hdg
          have hbd : ¬ (48 ≤ (s[i].toNat : Int) ∧ (s[i].toNat : Int) ≤ 51) := fun h => hdg ((digB_iff _).2 h)
          obtain ⟨c0, c1, c2, c3, c4, fz⟩ := f1
          clear f2 hdg
          have hcase : (s[i].toNat : Int) < 48 ∨ 51 < (s[i].toNat : Int) := by omega
          clear hbd
          rcases hcase with hcase | hcase
          all_goals
            go_wp2
            refine bodyPost_ret (results_ct Tryz.results80 _ _ _ ⟨w.heap.size, 0, none⟩ rfl _ (HF.out _ F1.out).load) rfl ?_
            exact ⟨HK.out _ HN.out _ _ _ _ _, Or.inr ⟨HSB.out, rfl⟩⟩
      · have hie : i = s.size := by omega
        have HSB : Hid (schemaB (bI s) = true) := by
          show _ = _
          simp only [schemaB, Bool.and_eq_true, decide_eq_true_eq, List.all_eq_true, bI_length]
          refine ⟨⟨?_, by omega⟩, hs4⟩
          intro c hc
          obtain ⟨j, hj⟩ := List.mem_iff_getElem?.1 hc
          have hjl : j < s.size := by have := (List.getElem?_eq_some_iff.1 hj).1; rwa [bI_length] at this
          rw [bI_get s j hjl] at hj
          simp only [Option.some.injEq] at hj
          subst hj
          exact HD.out j hjl (by omega)
        have HE : Hid (∀ j, fK (bI s) i j = scF (bI s) j) := by
          intro j
          unfold fK
          split
          · rfl
          · have : ¬ j < (bI s).length := by rw [bI_length]; omega
            simp [scF, this]
        have F3 : Hid (F5 wr (w.heap.size + 1) 0 (scF (bI s) 0) (scF (bI s) 1) (scF (bI s) 2) (scF (bI s) 3)) := by
          have := F2.out
          rw [HE.out, HE.out, HE.out, HE.out] at this
          exact this
        have HV : Hid (schV (bI s) = .agg #[.int .i64 s.size, .int .i64 (scF (bI s) 0), .int .i64 (scF (bI s) 1), .int .i64 (scF (bI s) 2), .int .i64 (scF (bI s) 3)]) := by
          show _ = _
          unfold schV
          rw [bI_length]
        subst hie
        obtain ⟨c0, c1, c2, c3, c4, fz⟩ := F3.out
        obtain ⟨d0, d1, d2, d3, d4, dz⟩ := F1.out
        have HFF : Hid (∀ W : World, F5 W w.heap.size 0 0 0 0 0 → ∀ a b c d e : Int, F5 (((((W.setCell ⟨w.heap.size, 0, none⟩ (.int .i64 a)).setCell ⟨w.heap.size, 1, none⟩ (.int .i64 b)).setCell ⟨w.heap.size, 2, none⟩ (.int .i64 c)).setCell ⟨w.heap.size, 3, none⟩ (.int .i64 d)).setCell ⟨w.heap.size, 4, none⟩ (.int .i64 e)) w.heap.size a b c d e) := by
          rintro W ⟨c0, c1, c2, c3, c4, fz⟩ a b c d e
          constructor <;> simp [go_sem, c0, c1, c2, c3, c4, fz]
        have F1' : Hid (F5 (wr.setCell ⟨w.heap.size + 1, 0, none⟩ (.int .i64 s.size)) w.heap.size 0 0 0 0 0) := F1.out.sm (((Kp.refl (fun b => b = w.heap.size + 1) wr).setCell (p := ⟨w.heap.size + 1, 0, none⟩) (Or.inr rfl) _).sm F1.out.lt (by omega))
        have HN' : Hid (Nw w (wr.setCell ⟨w.heap.size + 1, 0, none⟩ (.int .i64 s.size))) := HN.out.setCell (p := ⟨w.heap.size + 1, 0, none⟩) (Or.inl (by show w.heap.size ≤ w.heap.size + 1; omega)) _
        clear f1 f2 HD F2 HE
        go_wp2
        refine bodyPost_ret (results_ct Tryz.results80 _ _ _ ⟨w.heap.size, 0, none⟩ rfl _ (HFF.out _ F1'.out _ _ _ _ _).load) rfl ?_
        refine ⟨HK.out _ HN'.out _ _ _ _ _, Or.inl ⟨HSB.out, ?_⟩⟩
        rw [HV.out]; rfl
end Go.Proofs.YtcboiapggnmpfaaGreat

namespace Go.Proofs.YtcboiapggnmpfaaGreat
open Go.RowKit
set_option linter.unusedSimpArgs false
set_option linter.unusedVariables false

theorem wrap_small (n : Nat) (h : n < 9223372036854775808) : IntKind.i64.wrap (n : Int) = n := by rw [IntKind.wrap_i64]; omega
theorem bv_small (n : Nat) (h : n < 2 ^ 64) : (BitVec.ofInt 64 (n : Int)).toNat = n := by
  simp only [BitVec.toNat_ofInt]
  omega
theorem bits_or (m n : Nat) (hm : m < 2 ^ 26) (hn : n < 2 ^ 26) : bits .or .i64 (m : Int) (n : Int) = ((m ||| n : Nat) : Int) := by
  have h1 := bv_small m (by omega)
  have h2 := bv_small n (by omega)
  have h3 : m ||| n < 2 ^ 26 := Nat.or_lt_two_pow hm hn
  have h4 : (BitVec.ofInt 64 (m : Int) ||| BitVec.ofInt 64 (n : Int)).toNat = m ||| n := by rw [BitVec.toNat_or, h1, h2]
  show IntKind.i64.wrap ((BitVec.ofInt 64 (m : Int) ||| BitVec.ofInt 64 (n : Int)).toNat : Int) = _
  rw [h4]
  exact wrap_small (m ||| n) (by omega)
theorem bits_and (m n : Nat) (hm : m < 2 ^ 26) (hn : n < 2 ^ 26) : bits .and .i64 (m : Int) (n : Int) = ((m &&& n : Nat) : Int) := by
  have h1 := bv_small m (by omega)
  have h2 := bv_small n (by omega)
  have h3 : m &&& n < 2 ^ 26 := Nat.and_lt_two_pow m hn
  have h4 : (BitVec.ofInt 64 (m : Int) &&& BitVec.ofInt 64 (n : Int)).toNat = m &&& n := by rw [BitVec.toNat_and, h1, h2]
  show IntKind.i64.wrap ((BitVec.ofInt 64 (m : Int) &&& BitVec.ofInt 64 (n : Int)).toNat : Int) = _
  rw [h4]
  exact wrap_small (m &&& n) (by omega)
/-- The set of one name. -/
def onlyN (n : Int) : Nat := if 0 ≤ n ∧ n < 26 then 2 ^ n.toNat else 0
theorem onlyN_lt (n : Int) : onlyN n < 2 ^ 26 := by
  unfold onlyN
  split
  · exact Nat.pow_lt_pow_right (by omega) (by omega)
  · omega
theorem only_any (n : Int) (w : World) :
    Calls Tryz.prog 220 #[.int .i64 n] w fun e w' => e = .returned (.int .i64 (onlyN n : Nat)) ∧ w' = w := by
  by_cases h : 0 ≤ n ∧ n < 26
  · obtain ⟨h0, h1⟩ := h
    have e : onlyN n = 2 ^ n.toNat := by simp [onlyN, h0, h1]
    have hlt := onlyN_lt n
    rw [e] at hlt ⊢
    have hw : wrap64 (2 ^ n.toNat) = ((2 ^ n.toNat : Nat) : Int) := by
      have := wrap_small (2 ^ n.toNat) (by omega)
      rw [← this]
      simp [wrap64, IntKind.wrap_i64]
    go_enter Tryz.func220, Tryz.ntmps220
    go_wp2
    go_ret
    exact ⟨by rw [← hw]; rfl, rfl⟩
  · have e : onlyN n = 0 := by simp only [onlyN, if_neg h]
    rw [e]
    by_cases h0 : n < 0
    · go_enter Tryz.func220, Tryz.ntmps220
      go_wp2
      go_ret
      exact ⟨rfl, rfl⟩
    · have h1 : 26 ≤ n := by omega
      go_enter Tryz.func220, Tryz.ntmps220
      go_wp2
      go_ret
      exact ⟨rfl, rfl⟩
def hasN (m : Nat) (n : Int) : Bool := (m &&& onlyN n) != 0
theorem hasN_iff (m : Nat) (n : Nat) (h : n < 26) : hasN m (n : Int) = m.testBit n := by
  have e : onlyN (n : Int) = 2 ^ n := by simp [onlyN]; omega
  unfold hasN
  rw [e]
  cases ht : m.testBit n with
  | true =>
    rw [bne_iff_ne]
    intro hz
    have : (m &&& 2 ^ n).testBit n = true := by rw [Nat.testBit_and, ht, Nat.testBit_two_pow_self]; rfl
    rw [hz] at this
    simp at this
  | false =>
    have : m &&& 2 ^ n = 0 := by
      apply Nat.eq_of_testBit_eq
      intro i
      rw [Nat.testBit_and, Nat.zero_testBit]
      by_cases hi : n = i
      · subst hi; rw [ht]; rfl
      · rw [Nat.testBit_two_pow_of_ne hi]; simp
    rw [this]; rfl
theorem hasSet_any (m : Nat) (n : Int) (w : World) (hm : m < 2 ^ 26) :
    Calls Tryz.prog 179 #[.int .i64 m, .int .i64 n] w fun e w' => e = .returned (.bool (hasN m n)) ∧ w' = w := by
  have hb := bits_and m (onlyN n) hm (onlyN_lt n)
  go_enter Tryz.func179, Tryz.ntmps179
  go_wp2_with fail
  refine (only_any n w).mono ?_
  rintro e w1 ⟨rfl, rfl⟩
  go_wp2
  go_ret
  refine ⟨ret_b ?_, rfl⟩
  unfold hasN
  simp only [bne, hb]
  cases hq : (m &&& onlyN n) == 0 with
  | true => simp at hq; simp [hq]
  | false => simp at hq; simp [hq]
theorem Tryz.rowH : (Tryz.prog.underlying 232).map TypeDesc.isRow = some true := by kernel_rfl
theorem Tryz.sizeH : (Tryz.prog.info? 232).map (·.size) = some 2 := by kernel_rfl
theorem load_held (w : World) (B : Nat) (a b : Int) (h0 : w.cell? ⟨B, 0, none⟩ = some (.int .i64 a)) (h1 : w.cell? ⟨B, 1, none⟩ = some (.int .i64 b)) : (loadVar 232 ⟨B, 0, none⟩).run Tryz.prog w = .ok (.agg #[.int .i64 a, .int .i64 b]) w := by
  obtain ⟨dd, hu, hd⟩ := Option.map_eq_some_iff.1 Tryz.rowH
  refine run_loadVar_mid w B 0 232 [.int .i64 a, .int .i64 b] dd ?_ hu hd Tryz.sizeH
  intro k v hv
  rw [Nat.zero_add]
  match k, hv with
  | 0, hv => simp at hv; rw [h0, hv]
  | 1, hv => simp at hv; rw [h1, hv]
theorem results_cX {fn : Func} {a : Tmp} {t : TypeId} (h : fn.results = #[.cell a t]) (tmps : Array Value) (P : Program) (w : World) (b : Addr) (hp : tmps.getD a undef = .pointer (some b)) (v : Value) (hl : (loadVar t b).run P w = .ok v w) : (results fn tmps).run P w = .ok v w := by
  have hp' : tmps[a]?.getD undef = .pointer (some b) := by simpa using hp
  simp [results, h, hp', asAddr, hl]
theorem heldAnd_any (a b c d : Nat) (w : World) (ha : a < 2 ^ 26) (hb : b < 2 ^ 26) (hc : c < 2 ^ 26) (hd : d < 2 ^ 26) :
    Calls Tryz.prog 178 #[.agg #[.int .i64 a, .int .i64 b], .agg #[.int .i64 c, .int .i64 d]] w fun e w' => e = .returned (.agg #[.int .i64 (a ||| c : Nat), .int .i64 (b ||| d : Nat)]) ∧ Nw w w' := by
  have e1 := bits_or a c ha hc
  have e2 := bits_or b d hb hd
  go_enter Tryz.func178, Tryz.ntmps178
  go_wp2
  refine bodyPost_ret (results_cX Tryz.results178 _ _ _ ⟨w.heap.size + 2, 0, none⟩ rfl _ (load_held _ _ (a ||| c : Nat) (b ||| d : Nat) ?_ ?_)) rfl ?_
  · simp [go_sem, World.cell?_alloc_at]
  · simp [go_sem, World.cell?_alloc_at]
  · exact ⟨rfl, (((Kp.refl _ _).alloc _).alloc _).alloc _⟩
theorem heldOr_any (a b c d : Nat) (w : World) (ha : a < 2 ^ 26) (hb : b < 2 ^ 26) (hc : c < 2 ^ 26) (hd : d < 2 ^ 26) :
    Calls Tryz.prog 221 #[.agg #[.int .i64 a, .int .i64 b], .agg #[.int .i64 c, .int .i64 d]] w fun e w' => e = .returned (.agg #[.int .i64 (a ||| c : Nat), .int .i64 (b &&& d : Nat)]) ∧ Nw w w' := by
  have e1 := bits_or a c ha hc
  have e2 := bits_and b d hb hd
  go_enter Tryz.func221, Tryz.ntmps221
  go_wp2
  refine bodyPost_ret (results_cX Tryz.results221 _ _ _ ⟨w.heap.size + 2, 0, none⟩ rfl _ (load_held _ _ (a ||| c : Nat) (b &&& d : Nat) ?_ ?_)) rfl ?_
  · simp [go_sem, World.cell?_alloc_at]
  · simp [go_sem, World.cell?_alloc_at]
  · exact ⟨rfl, (((Kp.refl _ _).alloc _).alloc _).alloc _⟩
end Go.Proofs.YtcboiapggnmpfaaGreat

namespace Go.Proofs.YtcboiapggnmpfaaGreat

/-- The parts, in the order of their nodes: each with the numbers of its first node and of its first step. -/
def Nt.subs : Nt → Nat → Nat → List (Nt × Nat × Nat)
  | .one s, n, st => [(.one s, n, st)]
  | .two op l r, n, st => l.subs n st ++ (r.subs (n + l.size) (st + l.steps.length) ++ [(.two op l r, n, st)])
  | .rnd lo hi b, n, st => b.subs n st ++ [(.rnd lo hi b, n, st)]
/-- The node of a part. -/
def Nt.root : Nt → Nat → Nat → Nd
  | .one _, _, st => ⟨0, st, 0, 0, 0, 0⟩
  | .two op l r, n, _ => ⟨op, 0, ((n + l.size : Nat) : Int) - 1, ((n + l.size + r.size : Nat) : Int) - 1, 0, 0⟩
  | .rnd lo hi b, n, _ => ⟨3, 0, ((n + b.size : Nat) : Int) - 1, 0, lo, hi⟩
theorem Nt.subs_length : ∀ (t : Nt) (n st : Nat), (t.subs n st).length = t.size := by
  intro t
  induction t with
  | one s => intro n st; rfl
  | two op l r hl hr => intro n st; simp [Nt.subs, Nt.size, hl, hr]; omega
  | rnd lo hi b hb => intro n st; simp [Nt.subs, Nt.size, hb]
theorem Nt.nd_subs : ∀ (t : Nt) (n st : Nat), t.nd n st = (t.subs n st).map (fun x => x.1.root x.2.1 x.2.2) := by
  intro t
  induction t with
  | one s => intro n st; rfl
  | two op l r hl hr => intro n st; simp [Nt.nd, Nt.subs, hl, hr, Nt.root]
  | rnd lo hi b hb => intro n st; simp [Nt.nd, Nt.subs, hb, Nt.root]
theorem Nt.subs_last : ∀ (t : Nt) (n st : Nat), (t.subs n st)[t.size - 1]? = some (t, n, st) := by
  intro t n st
  cases t with
  | one s => rfl
  | two op l r =>
    simp only [Nt.subs, Nt.size]
    rw [← List.append_assoc, List.getElem?_append_right (by simp [Nt.subs_length])]
    have : l.size + r.size + 1 - 1 - (l.subs n st ++ r.subs (n + l.size) (st + l.steps.length)).length = 0 := by simp [Nt.subs_length]
    rw [this]; rfl
  | rnd lo hi b =>
    simp only [Nt.subs, Nt.size]
    rw [List.getElem?_append_right (by simp [Nt.subs_length])]
    have : b.size + 1 - 1 - (b.subs n st).length = 0 := by simp [Nt.subs_length]
    rw [this]; rfl
/-- What is known of the i-th part. -/
structure SubOk (t : Nt) (n st i : Nat) (u : Nt) (m k : Nat) : Prop where
  idx : m + u.size = n + i + 1
  ge : n ≤ m
  sge : st ≤ k
  sle : k + u.steps.length ≤ st + t.steps.length
  steps : ∀ j s, u.steps[j]? = some s → t.steps[k - st + j]? = some s
  two : ∀ op l r, u = .two op l r → (t.subs n st)[m + l.size - 1 - n]? = some (l, m, k) ∧ (t.subs n st)[m + l.size + r.size - 1 - n]? = some (r, m + l.size, k + l.steps.length)
  rnd : ∀ lo hi b, u = .rnd lo hi b → (t.subs n st)[m + b.size - 1 - n]? = some (b, m, k)
theorem SubOk.self (t : Nt) (n st : Nat) : SubOk t n st (t.size - 1) t n st := by
  have hp := t.size_pos
  refine ⟨by omega, Nat.le_refl _, Nat.le_refl _, Nat.le_refl _, by simp, ?_, ?_⟩
  · rintro op l r rfl
    have hl := l.size_pos
    have hr := r.size_pos
    simp only [Nt.subs]
    constructor
    · rw [List.getElem?_append_left (by rw [Nt.subs_length]; omega)]
      have : n + l.size - 1 - n = l.size - 1 := by omega
      rw [this]; exact l.subs_last n st
    · rw [List.getElem?_append_right (by rw [Nt.subs_length]; omega), List.getElem?_append_left (by simp only [Nt.subs_length]; omega)]
      have : n + l.size + r.size - 1 - n - (l.subs n st).length = r.size - 1 := by rw [Nt.subs_length]; omega
      rw [this]; exact r.subs_last _ _
  · rintro lo hi b rfl
    have hb := b.size_pos
    simp only [Nt.subs]
    rw [List.getElem?_append_left (by rw [Nt.subs_length]; omega)]
    have : n + b.size - 1 - n = b.size - 1 := by omega
    rw [this]; exact b.subs_last n st
theorem Nt.subs_ok : ∀ (t : Nt) (n st i : Nat) (u : Nt) (m k : Nat), (t.subs n st)[i]? = some (u, m, k) → SubOk t n st i u m k := by
  intro t
  induction t with
  | one s =>
    intro n st i u m k h
    cases i with
    | zero => simp [Nt.subs] at h; obtain ⟨rfl, rfl, rfl⟩ := h; exact SubOk.self (.one s) n st
    | succ i => simp [Nt.subs] at h
  | two op l r hl hr =>
    intro n st i u m k h
    by_cases h1 : i < l.size
    · have h' : (l.subs n st)[i]? = some (u, m, k) := by
        simp only [Nt.subs] at h
        rwa [List.getElem?_append_left (by rw [Nt.subs_length]; exact h1)] at h
      have o := hl n st i u m k h'
      have hmu := o.idx
      refine ⟨o.idx, o.ge, o.sge, by have := o.sle; simp [Nt.steps]; omega, ?_, ?_, ?_⟩
      · intro j s hs
        have := o.steps j s hs
        simp only [Nt.steps]
        rw [List.getElem?_append_left (List.getElem?_eq_some_iff.1 this).1]; exact this
      · intro op' l' r' e
        obtain ⟨a, b⟩ := o.two op' l' r' e
        subst e
        simp only [Nt.size] at hmu
        simp only [Nt.subs]
        exact ⟨by rw [List.getElem?_append_left (by rw [Nt.subs_length]; omega)]; exact a, by rw [List.getElem?_append_left (by rw [Nt.subs_length]; omega)]; exact b⟩
      · intro lo hi b e
        have a := o.rnd lo hi b e
        subst e
        simp only [Nt.size] at hmu
        simp only [Nt.subs]
        rw [List.getElem?_append_left (by rw [Nt.subs_length]; omega)]; exact a
    · by_cases h2 : i < l.size + r.size
      · have h' : (r.subs (n + l.size) (st + l.steps.length))[i - l.size]? = some (u, m, k) := by
          simp only [Nt.subs] at h
          rw [List.getElem?_append_right (by rw [Nt.subs_length]; omega), Nt.subs_length, List.getElem?_append_left (by rw [Nt.subs_length]; omega)] at h
          exact h
        have o := hr _ _ _ u m k h'
        have hmu := o.idx
        have hge := o.ge
        have hsge := o.sge
        refine ⟨by omega, by omega, by omega, by have := o.sle; simp [Nt.steps]; omega, ?_, ?_, ?_⟩
        · intro j s hs
          have := o.steps j s hs
          simp only [Nt.steps]
          rw [List.getElem?_append_right (by omega)]
          have e : k - st + j - l.steps.length = k - (st + l.steps.length) + j := by omega
          rw [e]; exact this
        · intro op' l' r' e
          obtain ⟨a, b⟩ := o.two op' l' r' e
          subst e
          simp only [Nt.size] at hmu
          have hl' := l'.size_pos
          have hr' := r'.size_pos
          simp only [Nt.subs]
          constructor
          · rw [List.getElem?_append_right (by rw [Nt.subs_length]; omega), Nt.subs_length, List.getElem?_append_left (by rw [Nt.subs_length]; omega)]
            have e : m + l'.size - 1 - n - l.size = m + l'.size - 1 - (n + l.size) := by omega
            rw [e]; exact a
          · rw [List.getElem?_append_right (by rw [Nt.subs_length]; omega), Nt.subs_length, List.getElem?_append_left (by rw [Nt.subs_length]; omega)]
            have e : m + l'.size + r'.size - 1 - n - l.size = m + l'.size + r'.size - 1 - (n + l.size) := by omega
            rw [e]; exact b
        · intro lo hi b e
          have a := o.rnd lo hi b e
          subst e
          simp only [Nt.size] at hmu
          have hb' := b.size_pos
          simp only [Nt.subs]
          rw [List.getElem?_append_right (by rw [Nt.subs_length]; omega), Nt.subs_length, List.getElem?_append_left (by rw [Nt.subs_length]; omega)]
          have e : m + b.size - 1 - n - l.size = m + b.size - 1 - (n + l.size) := by omega
          rw [e]; exact a
      · have hi : i < (Nt.two op l r).size := by rw [← Nt.subs_length (Nt.two op l r) n st]; exact (List.getElem?_eq_some_iff.1 h).1
        have e : i = (Nt.two op l r).size - 1 := by simp only [Nt.size] at hi ⊢; omega
        rw [e, Nt.subs_last] at h
        simp only [Option.some.injEq, Prod.mk.injEq] at h
        obtain ⟨rfl, rfl, rfl⟩ := h
        rw [e]; exact SubOk.self _ _ _
  | rnd lo hi b hb =>
    intro n st i u m k h
    by_cases h1 : i < b.size
    · have h' : (b.subs n st)[i]? = some (u, m, k) := by
        simp only [Nt.subs] at h
        rwa [List.getElem?_append_left (by rw [Nt.subs_length]; exact h1)] at h
      have o := hb n st i u m k h'
      have hmu := o.idx
      refine ⟨o.idx, o.ge, o.sge, by have := o.sle; simp [Nt.steps]; omega, ?_, ?_, ?_⟩
      · intro j s hs; exact o.steps j s hs
      · intro op' l' r' e
        obtain ⟨a, c⟩ := o.two op' l' r' e
        subst e
        simp only [Nt.size] at hmu
        simp only [Nt.subs]
        exact ⟨by rw [List.getElem?_append_left (by rw [Nt.subs_length]; omega)]; exact a, by rw [List.getElem?_append_left (by rw [Nt.subs_length]; omega)]; exact c⟩
      · intro lo' hi' b' e
        have a := o.rnd lo' hi' b' e
        subst e
        simp only [Nt.size] at hmu
        simp only [Nt.subs]
        rw [List.getElem?_append_left (by rw [Nt.subs_length]; omega)]; exact a
    · have hi' : i < (Nt.rnd lo hi b).size := by rw [← Nt.subs_length (Nt.rnd lo hi b) n st]; exact (List.getElem?_eq_some_iff.1 h).1
      have e : i = (Nt.rnd lo hi b).size - 1 := by simp only [Nt.size] at hi' ⊢; omega
      rw [e, Nt.subs_last] at h
      simp only [Option.some.injEq, Prod.mk.injEq] at h
      obtain ⟨rfl, rfl, rfl⟩ := h
      rw [e]; exact SubOk.self _ _ _
/-- A tree to sets that are handed along. -/
def Nt.hand : Nt → Hand
  | .one _ => Hand.one
  | .two op l r => if op = 1 then l.hand.andThen r.hand else l.hand.orElse r.hand
  | .rnd _ _ b => b.hand.round
theorem Nt.hand_cnt : ∀ t : Nt, t.hand.cnt = t.steps.length := by
  intro t
  induction t with
  | one s => rfl
  | two op l r hl hr =>
    simp only [Nt.hand, Nt.steps]
    split <;> simp [Hand.andThen, Hand.orElse, hl, hr]
  | rnd lo hi b hb => simp [Nt.hand, Nt.steps, Hand.round, hb]
/-- The number m is the set S of names. -/
structure IsSet (m : Nat) (S : Int → Bool) : Prop where
  lt : m < 2 ^ 26
  mem : ∀ x : Nat, x < 26 → m.testBit x = S x
theorem IsSet.zero : IsSet 0 (fun _ => false) := ⟨by omega, by simp⟩
theorem IsSet.only (n : Int) : IsSet (onlyN n) (fun x => decide (n = x)) := by
  refine ⟨onlyN_lt n, fun x hx => ?_⟩
  unfold onlyN
  split
  · rename_i h
    by_cases e : n = x
    · subst e; simp
    · rw [Nat.testBit_two_pow_of_ne (by omega)]
      simp [e]
  · rename_i h
    rw [Nat.zero_testBit]
    have : ¬ n = x := by omega
    simp [this]
theorem IsSet.or {a b : Nat} {S T : Int → Bool} (h : IsSet a S) (k : IsSet b T) : IsSet (a ||| b) (fun x => S x || T x) :=
  ⟨Nat.or_lt_two_pow h.lt k.lt, fun x hx => by rw [Nat.testBit_or, h.mem x hx, k.mem x hx]⟩
theorem IsSet.and {a b : Nat} {S T : Int → Bool} (h : IsSet a S) (k : IsSet b T) : IsSet (a &&& b) (fun x => S x && T x) :=
  ⟨Nat.and_lt_two_pow a k.lt, fun x hx => by rw [Nat.testBit_and, h.mem x hx, k.mem x hx]⟩
theorem IsSet.has {m : Nat} {S : Int → Bool} (h : IsSet m S) (n : Int) (h0 : 0 ≤ n) (h1 : n < 26) : hasN m n = S n := by
  obtain ⟨k, rfl⟩ : ∃ k : Nat, n = k := ⟨n.toNat, by omega⟩
  rw [hasN_iff m k (by omega), h.mem k (by omega)]
/-- What a part adds, as two numbers. -/
structure AddIs (nm : Nat → Int) (u : Nt) (k a b : Nat) : Prop where
  maybe : IsSet a (fun x => u.hand.addM nm x k)
  surely : IsSet b (fun x => u.hand.addS nm x k)
theorem AddIs.one (nm : Nat → Int) (s : St) (k : Nat) : AddIs nm (.one s) k (onlyN (nm k)) (onlyN (nm k)) := ⟨IsSet.only _, IsSet.only _⟩
theorem AddIs.rnd (nm : Nat → Int) (lo hi : Int) (b : Nt) (k : Nat) : AddIs nm (.rnd lo hi b) k 0 0 := ⟨IsSet.zero, IsSet.zero⟩
theorem AddIs.then {nm : Nat → Int} {l r : Nt} {k a b c d : Nat} (h : AddIs nm l k a b) (h' : AddIs nm r (k + l.steps.length) c d) : AddIs nm (.two 1 l r) k (a ||| c) (b ||| d) := by
  have e := l.hand_cnt
  refine ⟨?_, ?_⟩
  · have := h.maybe.or h'.maybe
    simp only [Nt.hand, if_true, Hand.andThen, e]; exact this
  · have := h.surely.or h'.surely
    simp only [Nt.hand, if_true, Hand.andThen, e]; exact this
theorem AddIs.either {nm : Nat → Int} {l r : Nt} {k a b c d : Nat} (h : AddIs nm l k a b) (h' : AddIs nm r (k + l.steps.length) c d) : AddIs nm (.two 2 l r) k (a ||| c) (b &&& d) := by
  have e := l.hand_cnt
  refine ⟨?_, ?_⟩
  · have := h.maybe.or h'.maybe
    simp only [Nt.hand, Hand.orElse, e]; exact this
  · have := h.surely.and h'.surely
    simp only [Nt.hand, Hand.orElse, e]; exact this
end Go.Proofs.YtcboiapggnmpfaaGreat

namespace Go.Proofs.YtcboiapggnmpfaaGreat
open Go.RowKit
set_option linter.unusedSimpArgs false
set_option linter.unusedVariables false

/-- A pattern's lists in memory. -/
structure PatM (w : World) (nv sv : Value) (M : List Nd) (L : List (St × Value)) : Prop where
  nodes : w.ownsRow 0 286 6 nv M.length (ndsC M)
  steps : w.ownsRow 0 145 4 sv L.length (stsC L)
  tests : ∀ x ∈ L, w.ownsRow 0 38 11 x.2 x.1.tests.length (tstsC x.1.tests)
theorem PatM.nw {w w' : World} {nv sv : Value} {M : List Nd} {L : List (St × Value)} (h : PatM w nv sv M L) (k : Nw w w') : PatM w' nv sv M L :=
  ⟨ownsKpX h.nodes k (fun _ _ h => h), ownsKpX h.steps k (fun _ _ h => h), fun x hx => ownsKpX (h.tests x hx) k (fun _ _ h => h)⟩
/-- Writes go to blocks from B on alone, and the lists lie below. -/
structure PatB (w : World) (B : Nat) (nv sv : Value) (M : List Nd) (L : List (St × Value)) : Prop where
  pat : PatM w nv sv M L
  nb : ∀ g, nv.ownBlock = some g → g < B
  sb : ∀ g, sv.ownBlock = some g → g < B
  tb : ∀ x ∈ L, ∀ g, x.2.ownBlock = some g → g < B
theorem PatB.kp {w w' : World} {B : Nat} {nv sv : Value} {M : List Nd} {L : List (St × Value)} (h : PatB w B nv sv M L) (k : Kp (fun b => B ≤ b) w w') : PatB w' B nv sv M L :=
  ⟨⟨ownsKpX h.pat.nodes k (fun g hg e => by have := h.nb g hg; omega), ownsKpX h.pat.steps k (fun g hg e => by have := h.sb g hg; omega), fun x hx => ownsKpX (h.pat.tests x hx) k (fun g hg e => by have := h.tb x hx g hg; omega)⟩, h.nb, h.sb, h.tb⟩
theorem PatM.below {w : World} {nv sv : Value} {M : List Nd} {L : List (St × Value)} (h : PatM w nv sv M L) : PatB w w.heap.size nv sv M L :=
  ⟨h, fun g hg => (h.nodes.lt g hg).2, fun g hg => (h.steps.lt g hg).2, fun x hx g hg => ((h.tests x hx).lt g hg).2⟩
theorem ndsC_get : ∀ (M : List Nd) (i j : Nat) (x : Nd), M[i]? = some x → j < 6 → (ndsC M)[i * 6 + j]? = (ndC x)[j]? := by
  intro M
  induction M with
  | nil => intro i j x h; simp at h
  | cons y r ih =>
    intro i j x h hj
    have e : ndsC (y :: r) = ndC y ++ ndsC r := by simp [ndsC]
    have hl : (ndC y).length = 6 := rfl
    rw [e]
    cases i with
    | zero => simp at h; subst h; rw [List.getElem?_append_left (by omega)]; simp
    | succ i =>
      simp at h
      rw [List.getElem?_append_right (by omega), hl]
      have : (i + 1) * 6 + j - 6 = i * 6 + j := by omega
      rw [this]; exact ih i j x h hj
theorem stsC_get : ∀ (L : List (St × Value)) (i j : Nat) (x : St × Value), L[i]? = some x → j < 4 → (stsC L)[i * 4 + j]? = (stC x)[j]? := by
  intro M
  induction M with
  | nil => intro i j x h; simp at h
  | cons y r ih =>
    intro i j x h hj
    have e : stsC (y :: r) = stC y ++ stsC r := by simp [stsC]
    have hl : (stC y).length = 4 := rfl
    rw [e]
    cases i with
    | zero => simp at h; subst h; rw [List.getElem?_append_left (by omega)]; simp
    | succ i =>
      simp at h
      rw [List.getElem?_append_right (by omega), hl]
      have : (i + 1) * 4 + j - 4 = i * 4 + j := by omega
      rw [this]; exact ih i j x h hj
theorem PatM.node {w : World} {gn cn : Nat} {sv : Value} {M : List Nd} {L : List (St × Value)} (h : PatM w (.slice (some ⟨gn, 0, none⟩) M.length cn) sv M L) {i : Nat} {x : Nd} (hi : M[i]? = some x) :
    w.cell? ⟨gn, i * 6, none⟩ = some (.int .i64 x.op) ∧ w.cell? ⟨gn, i * 6 + 1, none⟩ = some (.int .i64 x.step) ∧ w.cell? ⟨gn, i * 6 + 2, none⟩ = some (.int .i64 x.left) ∧ w.cell? ⟨gn, i * 6 + 3, none⟩ = some (.int .i64 x.right) ∧ w.cell? ⟨gn, i * 6 + 4, none⟩ = some (.int .i64 x.low) ∧ w.cell? ⟨gn, i * 6 + 5, none⟩ = some (.int .i64 x.high) := by
  have hc : ∀ j v, j < 6 → (ndC x)[j]? = some v → w.cell? ⟨gn, i * 6 + j, none⟩ = some v := fun j v hj hv => owns_cell h.nodes (i * 6 + j) (by rw [ndsC_get M i j x hi hj]; exact hv)
  exact ⟨hc 0 _ (by omega) rfl, hc 1 _ (by omega) rfl, hc 2 _ (by omega) rfl, hc 3 _ (by omega) rfl, hc 4 _ (by omega) rfl, hc 5 _ (by omega) rfl⟩
theorem PatM.step {w : World} {gs cs : Nat} {nv : Value} {M : List Nd} {L : List (St × Value)} (h : PatM w nv (.slice (some ⟨gs, 0, none⟩) L.length cs) M L) {i : Nat} {x : St × Value} (hi : L[i]? = some x) :
    w.cell? ⟨gs, i * 4, none⟩ = some (.int .i64 x.1.pos) ∧ w.cell? ⟨gs, i * 4 + 1, none⟩ = some (.int .i64 x.1.kind) ∧ w.cell? ⟨gs, i * 4 + 2, none⟩ = some (.int .i64 x.1.name) ∧ w.cell? ⟨gs, i * 4 + 3, none⟩ = some x.2 := by
  have hc : ∀ j v, j < 4 → (stC x)[j]? = some v → w.cell? ⟨gs, i * 4 + j, none⟩ = some v := fun j v hj hv => owns_cell h.steps (i * 4 + j) (by rw [stsC_get L i j x hi hj]; exact hv)
  exact ⟨hc 0 _ (by omega) rfl, hc 1 _ (by omega) rfl, hc 2 _ (by omega) rfl, hc 3 _ (by omega) rfl⟩
def heldC (x : Nat × Nat) : List Value := [.int .i64 x.1, .int .i64 x.2]
def heldsC (l : List (Nat × Nat)) : List Value := (l.map heldC).flatten
theorem heldsC_length (l : List (Nat × Nat)) : (heldsC l).length = l.length * 2 := by
  induction l with
  | nil => rfl
  | cons x r ih =>
    have : heldsC (x :: r) = heldC x ++ heldsC r := by simp [heldsC]
    rw [this, List.length_append, ih]; simp [heldC]; omega
theorem heldsC_append (a b : List (Nat × Nat)) : heldsC (a ++ b) = heldsC a ++ heldsC b := by simp [heldsC]
theorem heldsC_get : ∀ (M : List (Nat × Nat)) (i j : Nat) (x : Nat × Nat), M[i]? = some x → j < 2 → (heldsC M)[i * 2 + j]? = (heldC x)[j]? := by
  intro M
  induction M with
  | nil => intro i j x h; simp at h
  | cons y r ih =>
    intro i j x h hj
    have e : heldsC (y :: r) = heldC y ++ heldsC r := by simp [heldsC]
    have hl : (heldC y).length = 2 := rfl
    rw [e]
    cases i with
    | zero => simp at h; subst h; rw [List.getElem?_append_left (by omega)]; simp
    | succ i =>
      simp at h
      rw [List.getElem?_append_right (by omega), hl]
      have : (i + 1) * 2 + j - 2 = i * 2 + j := by omega
      rw [this]; exact ih i j x h hj
theorem Tryz.info232 : (Tryz.prog.info? 232).map (fun i => (i.zero, i.size, i.bytes)) = some (some (.agg #[.int .i64 0, .int .i64 0]), 2, 16) := by kernel_rfl
theorem made_held (n : Nat) : (madeCells #[.int .i64 0, .int .i64 0] n).toList = List.replicate n (.int .i64 0) := by
  have hx : ∀ x : Nat, (#[.int .i64 0, .int .i64 0] : Array Value)[x % 2]! = Value.int .i64 0 := by
    intro x
    have h : x % 2 < 2 := by omega
    generalize x % 2 = y at h
    have : y = 0 ∨ y = 1 := by omega
    rcases this with h | h <;> subst h <;> rfl
  have hs : (#[.int .i64 0, .int .i64 0] : Array Value).size = 2 := rfl
  simp only [madeCells, hs, hx]
  apply List.ext_getElem?
  intro k
  simp [List.getElem?_replicate]
  by_cases h : k < n
  · simp [h]
  · simp [h]
theorem helds_zero (n : Nat) : heldsC (List.replicate n (0, 0)) = List.replicate (n * 2) (.int .i64 0) := by
  induction n with
  | zero => rfl
  | succ n ih =>
    have e : heldsC ((0, 0) :: List.replicate n (0, 0)) = heldC (0, 0) ++ heldsC (List.replicate n (0, 0)) := by simp [heldsC]
    rw [List.replicate_succ, e, ih]
    have : (n + 1) * 2 = n * 2 + 1 + 1 := by omega
    rw [this, List.replicate_succ, List.replicate_succ]
    rfl
/-- The name of step k. -/
def nmT (t : Nt) (k : Nat) : Int := ((t.steps[k]?).map (·.name)).getD (-1)
/-- How far the sets are reckoned. -/
structure Adds (t : Nt) (i : Nat) (abs : List (Nat × Nat)) : Prop where
  len : abs.length = t.size
  ok : ∀ (j : Nat) (u : Nt) (m k a b : Nat), j < i → (t.subs 0 0)[j]? = some (u, m, k) → abs[j]? = some (a, b) → AddIs (nmT t) u k a b
  zero : ∀ j : Nat, i ≤ j → j < t.size → abs[j]? = some (0, 0)
theorem Adds.start (t : Nt) : Adds t 0 (List.replicate t.size (0, 0)) := ⟨by simp, fun _ _ _ _ _ _ h => by omega, fun j _ h => by simp [h]⟩
theorem Adds.set {t : Nt} {i : Nat} {abs : List (Nat × Nat)} (h : Adds t i abs) {u : Nt} {m k a b : Nat} (hu : (t.subs 0 0)[i]? = some (u, m, k)) (hab : AddIs (nmT t) u k a b) : Adds t (i + 1) (abs.set i (a, b)) := by
  have hi : i < t.size := by have := (List.getElem?_eq_some_iff.1 hu).1; rwa [Nt.subs_length] at this
  refine ⟨by simp [h.len], ?_, ?_⟩
  · intro j u' m' k' a' b' hj hs hg
    by_cases e : j = i
    · subst e
      rw [hu] at hs
      simp only [Option.some.injEq, Prod.mk.injEq] at hs
      obtain ⟨rfl, rfl, rfl⟩ := hs
      rw [List.getElem?_set_self (by rw [h.len]; exact hi)] at hg
      simp only [Option.some.injEq, Prod.mk.injEq] at hg
      obtain ⟨rfl, rfl⟩ := hg
      exact hab
    · rw [List.getElem?_set_ne (by omega)] at hg
      exact h.ok j u' m' k' a' b' (by omega) hs hg
  · intro j hj hl
    rw [List.getElem?_set_ne (by omega)]
    exact h.zero j (by omega) hl
theorem Adds.next {t : Nt} {i : Nat} {abs : List (Nat × Nat)} (h : Adds t i abs) {lo hi : Int} {b : Nt} {m k : Nat} (hu : (t.subs 0 0)[i]? = some (.rnd lo hi b, m, k)) : Adds t (i + 1) abs := by
  have hil : i < t.size := by have := (List.getElem?_eq_some_iff.1 hu).1; rwa [Nt.subs_length] at this
  refine ⟨h.len, ?_, fun j hj hl => h.zero j (by omega) hl⟩
  intro j u' m' k' a' b' hj hs hg
  by_cases e : j = i
  · subst e
    rw [hu] at hs
    simp only [Option.some.injEq, Prod.mk.injEq] at hs
    obtain ⟨rfl, rfl, rfl⟩ := hs
    rw [h.zero j (Nat.le_refl _) hil] at hg
    simp only [Option.some.injEq, Prod.mk.injEq] at hg
    obtain ⟨rfl, rfl⟩ := hg
    exact AddIs.rnd _ _ _ _ _
  · exact h.ok j u' m' k' a' b' (by omega) hs hg
theorem helds_split {abs : List (Nat × Nat)} {i : Nat} {x : Nat × Nat} (h : abs[i]? = some x) (y : Nat × Nat) : ∃ p q, heldsC abs = heldsC p ++ (heldC x ++ heldsC q) ∧ heldsC (abs.set i y) = heldsC p ++ (heldC y ++ heldsC q) ∧ p.length = i := by
  obtain ⟨hi, hx⟩ := List.getElem?_eq_some_iff.1 h
  refine ⟨abs.take i, abs.drop (i + 1), ?_, ?_, by simp; omega⟩
  · have e : abs = abs.take i ++ (x :: abs.drop (i + 1)) := by rw [← hx, List.getElem_cons_drop, List.take_append_drop]
    conv => lhs; rw [e]
    rw [heldsC_append]; simp [heldsC]
  · have e : abs.set i y = abs.take i ++ (y :: abs.drop (i + 1)) := by
      rw [List.set_eq_take_append_cons_drop, if_pos hi]
    rw [e, heldsC_append]; simp [heldsC]
end Go.Proofs.YtcboiapggnmpfaaGreat
