/- Walks: check: how many places. -/
import Derived.Test.YtcboiapggnmpfaaGreatQq
import Derived.Test.YtcboiapggnmpfaaGreatQp
namespace Go.Proofs.YtcboiapggnmpfaaGreat
open Go.RowKit
set_option linter.unusedSimpArgs false
set_option linter.unusedVariables false

/-- How long a tree is, written out. -/
def Nt.long : Nt → Int
  | .one _ => 1
  | .two _ l r => l.long + r.long
  | .rnd _ hi b => if hi = -1 then b.long else b.long * hi
/-- Its repetitions end at one or more, or never. -/
def Nt.Reps : Nt → Prop
  | .one _ => True
  | .two _ l r => l.Reps ∧ r.Reps
  | .rnd _ hi b => (hi = -1 ∨ (1 ≤ hi ∧ hi ≤ 9)) ∧ b.Reps
theorem Nt.long_pos : ∀ t : Nt, t.Reps → 1 ≤ t.long := by
  intro t
  induction t with
  | one s => intro _; exact Int.le_refl _
  | two op l r hl hr => intro h; have := hl h.1; have := hr h.2; simp only [Nt.long]; omega
  | rnd lo hi b hb =>
    intro h
    have h1 := hb h.2
    simp only [Nt.long]
    split
    · exact h1
    · rcases h.1 with h2 | ⟨h2, _⟩
      · omega
      · have := Int.mul_le_mul h1 h2 (by omega) (by omega)
        omega
theorem Nt.subs_reps : ∀ (t : Nt) (n st i : Nat) (u : Nt) (m k : Nat), t.Reps → (t.subs n st)[i]? = some (u, m, k) → u.Reps := by
  intro t
  induction t with
  | one s =>
    intro n st i u m k h hi
    have := List.mem_of_getElem? hi
    simp [Nt.subs] at this
    obtain ⟨rfl, _⟩ := this; exact h
  | two op l r hl hr =>
    intro n st i u m k h hi
    have := List.mem_of_getElem? hi
    simp only [Nt.subs, List.mem_append, List.mem_singleton] at this
    rcases this with h1 | h1 | h1
    · obtain ⟨j, hj⟩ := List.mem_iff_getElem?.1 h1; exact hl _ _ j u m k h.1 hj
    · obtain ⟨j, hj⟩ := List.mem_iff_getElem?.1 h1; exact hr _ _ j u m k h.2 hj
    · simp only [Prod.mk.injEq] at h1; obtain ⟨rfl, _⟩ := h1; exact h
  | rnd lo hi b hb =>
    intro n st i u m k h hi
    have := List.mem_of_getElem? hi
    simp only [Nt.subs, List.mem_append, List.mem_singleton] at this
    rcases this with h1 | h1
    · obtain ⟨j, hj⟩ := List.mem_iff_getElem?.1 h1; exact hb _ _ j u m k h.2 hj
    · simp only [Prod.mk.injEq] at h1; obtain ⟨rfl, _⟩ := h1; exact h
def capP (z : Int) : Int := if 24 < z then 25 else z
theorem capP_bounds {z : Int} (h : 1 ≤ z) : 1 ≤ capP z ∧ capP z ≤ 25 := by unfold capP; split <;> omega
theorem capP_add {a b : Int} (ha : 1 ≤ a) (hb : 1 ≤ b) : capP (capP a + capP b) = capP (a + b) := by unfold capP; split <;> split <;> split <;> (try split) <;> omega
theorem capP_cap (a : Int) : capP (capP a) = capP a := by unfold capP; split <;> simp_all
theorem capP_mul {a h : Int} (ha : 1 ≤ a) (h1 : 1 ≤ h) : capP (capP a * h) = capP (a * h) := by
  by_cases c : 24 < a
  · have e : capP a = 25 := by unfold capP; rw [if_pos c]
    have m1 := Int.mul_le_mul (show (25 : Int) ≤ 25 by omega) h1 (by omega) (by omega)
    have m2 := Int.mul_le_mul (show (25 : Int) ≤ a by omega) h1 (by omega) (by omega)
    rw [e]
    unfold capP
    rw [if_pos (by omega), if_pos (by omega)]
  · have e : capP a = a := by unfold capP; rw [if_neg c]
    rw [e]
/-- How far the places are counted. -/
structure CntIs (t : Nt) (i : Nat) (ps : List Int) (c : Int) : Prop where
  len : ps.length = t.size
  ok : ∀ (j : Nat) (u : Nt) (m k : Nat), j < i → (t.subs 0 0)[j]? = some (u, m, k) → ps[j]? = some (capP u.long)
  last : 0 < i → ∀ (u : Nt) (m k : Nat), (t.subs 0 0)[i - 1]? = some (u, m, k) → c = capP u.long
theorem CntIs.start (t : Nt) : CntIs t 0 (List.replicate t.size 0) 0 := ⟨by simp, fun _ _ _ _ h => by omega, fun h => by omega⟩
theorem CntIs.set {t : Nt} {i : Nat} {ps : List Int} {c : Int} (h : CntIs t i ps c) {u : Nt} {m k : Nat} (hu : (t.subs 0 0)[i]? = some (u, m, k)) {z : Int} (hz : z = capP u.long) : CntIs t (i + 1) (ps.set i z) z := by
  have hi : i < t.size := by have := (List.getElem?_eq_some_iff.1 hu).1; rwa [Nt.subs_length] at this
  refine ⟨by simp [h.len], ?_, ?_⟩
  · intro j u' m' k' hj hs
    by_cases e : j = i
    · subst e
      rw [hu] at hs
      simp only [Option.some.injEq, Prod.mk.injEq] at hs
      obtain ⟨rfl, rfl, rfl⟩ := hs
      rw [List.getElem?_set_self (by rw [h.len]; exact hi), hz]
    · rw [List.getElem?_set_ne (by omega)]
      exact h.ok j u' m' k' (by omega) hs
  · intro _ u' m' k' hs
    have e : i + 1 - 1 = i := by omega
    rw [e, hu] at hs
    simp only [Option.some.injEq, Prod.mk.injEq] at hs
    obtain ⟨rfl, rfl, rfl⟩ := hs
    exact hz
def intsI (l : List Int) : List Value := l.map (Value.int .i64)
theorem intsI_get (l : List Int) (i : Nat) (x : Int) (h : l[i]? = some x) : (intsI l)[i]? = some (.int .i64 x) := by simp [intsI, h]
theorem intsI_set (l : List Int) (i : Nat) (x : Int) : (intsI l).set i (.int .i64 x) = intsI (l.set i x) := by simp [intsI]
theorem made_intsI (n : Nat) : (madeCells #[Value.int .i64 0] n).toList = intsI (List.replicate n 0) := by
  have hx : ∀ x : Nat, (#[Value.int .i64 0] : Array Value)[x % (#[Value.int .i64 0] : Array Value).size]! = Value.int .i64 0 := by
    intro x
    have : x % (#[Value.int .i64 0] : Array Value).size = 0 := by simp; omega
    rw [this]; rfl
  simp only [madeCells, hx]
  apply List.ext_getElem?
  intro k
  simp [intsI, List.getElem?_replicate]
  by_cases h : k < n
  · simp [h]
  · simp [h]
set_option maxRecDepth 100000 in
set_option maxHeartbeats 1000000 in
theorem countPlaces_any (t : Nt) (nv : Value) (w : World) (h : w.ownsRow 0 286 6 nv (t.nd 0 0).length (ndsC (t.nd 0 0))) (hsz : t.size ≤ 10000) (hops : t.Ops) (hreps : t.Reps) :
    Calls Tryz.prog 134 #[nv] w fun e w' => e = .returned (.int .i64 (capP t.long)) ∧ Nw w w' := by
  have hpos := t.size_pos
  obtain ⟨gn, cn, hnv⟩ := owns_someX h (by rw [Nt.nd_length]; exact hpos)
  subst hnv
  have hbn := h.lt gn rfl
  have hnl := t.nd_length 0 0
  have HP : Hid (∀ W, Nw w W → PatM W (.slice (some ⟨gn, 0, none⟩) (t.nd 0 0).length cn) (.slice none 0 0) (t.nd 0 0) []) := fun W kW => ⟨ownsKpX h kW (fun _ _ h => h), World.ownsRow_nil _ _ _ _, fun x hx => by cases hx⟩
  clear h
  rw [hnl]
  clear hnl
  obtain ⟨i0, hi0, hz0, hz1, hz2⟩ := info_parts Tryz.info3
  go_enter Tryz.func134, Tryz.ntmps134
  go_wp2_with (first | (at_make; refine wpList_make_full _ rfl _ _ 73 rfl w.heap.size 3 i0 (.int .i64 0) 1 Tryz.underlying73 hi0 hz0 hz1 _ _ _ _ t.size rfl rfl ?a1 ?a2 ?b1 ?b2 ?b3 ?_) | fail)
  case a1 => omega
  case a2 => omega
  case b1 => first | omega | (rw [hz2]; omega)
  case b2 => unfold maxLen; omega
  case b3 => simp
  intro w1 hown1 hgrow1
  have kg : Nw w w1 := (Kp.refl _ _).grown hgrow1 (by intro k hk; cases hk)
  have R1 : Hid (Row w1 w.heap.size 3 (intsI (List.replicate t.size 0))) := by
    have := Row.of_full hown1
    rw [made_intsI] at this
    exact this
  have K1 : Hid (Nw w w1) := kg
  clear hown1 hgrow1 kg
  go_wp2
  go_loopg [4, 5] t.size (fun m v4 v5 wr => ∃ (i : Nat) (ps : List Int) (c : Int), v4 = .int .i64 c ∧ v5 = .int .i64 i ∧ m = t.size - i ∧ i ≤ t.size ∧ CntIs t i ps c ∧ Row wr w.heap.size 3 (intsI ps) ∧ Nw w wr)
  case atStart => exact ⟨0, _, 0, rfl, rfl, rfl, by omega, CntIs.start t, R1.out, K1.out⟩
  case round =>
    obtain ⟨i, ps, c, rfl, rfl, hm, hi, hcnt, hrow, hk⟩ := hrel
    have HC : Hid (CntIs t i ps c) := hcnt
    have HR : Hid (Row wr w.heap.size 3 (intsI ps)) := hrow
    have HK : Hid (Nw w wr) := hk
    have HM : Hid (_ = t.size - i) := hm
    have hrl := hrow.lt
    have HPW := HP.out wr hk
    have y3 : gn < wr.heap.size := by omega
    by_cases hil : i < t.size
    · obtain ⟨u, m, k, hu⟩ : ∃ u m k, (t.subs 0 0)[i]? = some (u, m, k) := ⟨_, _, _, List.getElem?_eq_getElem (by rw [Nt.subs_length]; exact hil)⟩
      have hnd : (t.nd 0 0)[i]? = some (u.root m k) := by rw [Nt.nd_subs, List.getElem?_map, hu]; rfl
      obtain ⟨n0, n1, n2, n3, n4, n5⟩ := HPW.node hnd
      have hok := t.subs_ok 0 0 i u m k hu
      have huo := t.subs_ops 0 0 i u m k hops hu
      have hur := t.subs_reps 0 0 i u m k hreps hu
      have HU : Hid ((t.subs 0 0)[i]? = some (u, m, k)) := hu
      obtain ⟨pz, hpz⟩ : ∃ pz, ps[i]? = some pz := ⟨_, List.getElem?_eq_getElem (by rw [HC.out.len]; exact hil)⟩
      have ci : wr.cell? ⟨w.heap.size, i, none⟩ = some (.int .i64 pz) := by rw [hrow.cell]; exact intsI_get _ _ _ hpz
      have cz : ∀ o, wr.frozen? ⟨w.heap.size, o, none⟩ = false := hrow.froz
      have HW : Hid (∀ (z : Int) (o : Obj), Row ((wr.setCell ⟨w.heap.size, i, none⟩ (.int .i64 z)).alloc o) w.heap.size 3 (intsI (ps.set i z)) ∧ Nw w ((wr.setCell ⟨w.heap.size, i, none⟩ (.int .i64 z)).alloc o)) := by
        intro z o
        refine ⟨by rw [← intsI_set]; exact (HR.out.set _ _).alloc _, ?_⟩
        exact (HK.out.setCell (p := ⟨w.heap.size, i, none⟩) (Or.inl (Nat.le_refl _)) _).alloc o
      have HW2 : Hid (∀ (z : Int) (o : Obj) (n : Nat), Row (((wr.alloc o).drewN n).setCell ⟨w.heap.size, i, none⟩ (.int .i64 z)) w.heap.size 3 (intsI (ps.set i z)) ∧ Nw w (((wr.alloc o).drewN n).setCell ⟨w.heap.size, i, none⟩ (.int .i64 z))) := by
        intro z o n
        refine ⟨by rw [← intsI_set]; exact ((HR.out.kp (((Kp.refl (fun _ => False) wr).alloc o).drewN n) (fun h => h)).set _ _), ?_⟩
        exact ((HK.out.alloc o).drewN n).setCell (p := ⟨w.heap.size, i, none⟩) (Or.inl (Nat.le_refl _)) _
      clear hcnt hrow hk hm hnd hu HPW hpz
      have hne : ¬ w.heap.size = wr.heap.size := by omega
      have hne' : ¬ wr.heap.size = w.heap.size := by omega
      cases u with
      | one s =>
        simp only [Nt.root] at n0 n1 n2 n3 n4 n5
        clear hok huo hur
        go_wp2
        go_roundg (t.size - (i + 1))
        case measure => rw [HM.out]; omega
        case rel => exact ⟨i + 1, ps.set i 1, 1, rfl, by simp, rfl, by omega, HC.out.set HU.out (by simp [Nt.long, capP]), (HW.out 1 _).1, (HW.out 1 _).2⟩
      | two op l r =>
        obtain ⟨sl, sr⟩ := hok.two op l r rfl
        have hidx := hok.idx
        simp only [Nt.size] at hidx
        have hl1 := l.size_pos
        have hr1 := r.size_pos
        obtain ⟨jl, hjl⟩ : ∃ jl, jl = m + l.size - 1 := ⟨_, rfl⟩
        obtain ⟨jr, hjr⟩ : ∃ jr, jr = m + l.size + r.size - 1 := ⟨_, rfl⟩
        simp only [Nat.sub_zero] at sl sr
        rw [← hjl] at sl
        rw [← hjr] at sr
        simp only [Nt.root] at n0 n1 n2 n3 n4 n5
        have el : ((m + l.size : Nat) : Int) - 1 = jl := by omega
        have er : ((m + l.size + r.size : Nat) : Int) - 1 = jr := by omega
        rw [el] at n2
        rw [er] at n3
        have e2 : wr.cell? ⟨w.heap.size, jl, none⟩ = some (.int .i64 (capP l.long)) := by rw [HR.out.cell]; exact intsI_get _ _ _ (HC.out.ok jl l m k (by omega) sl)
        have e4 : wr.cell? ⟨w.heap.size, jr, none⟩ = some (.int .i64 (capP r.long)) := by rw [HR.out.cell]; exact intsI_get _ _ _ (HC.out.ok jr r _ _ (by omega) sr)
        have bl := capP_bounds (l.long_pos hur.1)
        have br := capP_bounds (r.long_pos hur.2)
        have HA : Hid (capP (capP l.long + capP r.long) = capP (Nt.two op l r).long) := capP_add (l.long_pos hur.1) (r.long_pos hur.2)
        have hjl10 : jl < t.size := by omega
        have hjr10 : jr < t.size := by omega
        simp only [Nt.Ops] at huo
        have hop := huo.1
        generalize capP l.long = a at *
        generalize capP r.long = b at *
        clear hok huo sl sr hjl hjr el er hidx hl1 hr1 hur
        by_cases h24 : 24 < a + b
        · have HA2 : Hid ((25 : Int) = capP (Nt.two op l r).long) := by show _ = _; rw [← HA.out, capP, if_pos h24]
          rcases hop with rfl | rfl
          all_goals
            go_wp2
            go_quiet (fail)
            go_wp2
            go_roundg (t.size - (i + 1))
            case measure => rw [HM.out]; omega
            case rel => exact ⟨i + 1, ps.set i 25, 25, rfl, by simp, rfl, by omega, HC.out.set HU.out HA2.out, (HW2.out 25 _ _).1, (HW2.out 25 _ _).2⟩
        · have HA2 : Hid (a + b = capP (Nt.two op l r).long) := by show _ = _; rw [← HA.out, capP, if_neg h24]
          rcases hop with rfl | rfl
          all_goals
            go_wp2
            go_quiet (fail)
            go_wp2
            go_roundg (t.size - (i + 1))
            case measure => rw [HM.out]; omega
            case rel => exact ⟨i + 1, ps.set i (a + b), a + b, rfl, by simp, rfl, by omega, HC.out.set HU.out HA2.out, (HW2.out _ _ _).1, (HW2.out _ _ _).2⟩
      | rnd lo hi' b =>
        have sl := hok.rnd lo hi' b rfl
        have hidx := hok.idx
        simp only [Nt.size] at hidx
        have hl1 := b.size_pos
        obtain ⟨jl, hjl⟩ : ∃ jl, jl = m + b.size - 1 := ⟨_, rfl⟩
        simp only [Nat.sub_zero] at sl
        rw [← hjl] at sl
        simp only [Nt.root] at n0 n1 n2 n3 n4 n5
        have el : ((m + b.size : Nat) : Int) - 1 = jl := by omega
        rw [el] at n2
        have e2 : wr.cell? ⟨w.heap.size, jl, none⟩ = some (.int .i64 (capP b.long)) := by rw [HR.out.cell]; exact intsI_get _ _ _ (HC.out.ok jl b m k (by omega) sl)
        have hb1 := b.long_pos hur.2
        have bl := capP_bounds hb1
        have hjl10 : jl < t.size := by omega
        rcases hur.1 with hh | ⟨hh1, hh9⟩
        · have g1 : (hi' != -1) = false := by simp [hh]
          have HA : Hid (capP (capP b.long) = capP (Nt.rnd lo hi' b).long) := by show _ = _; rw [capP_cap]; simp [Nt.long, hh]
          generalize capP b.long = a at *
          clear hok huo sl hjl el hidx hl1 hur hh hb1
          by_cases h24 : 24 < a
          · have HA2 : Hid ((25 : Int) = capP (Nt.rnd lo hi' b).long) := by show _ = _; rw [← HA.out, capP, if_pos h24]
            go_wp2
            go_roundg (t.size - (i + 1))
            case measure => rw [HM.out]; omega
            case rel => exact ⟨i + 1, ps.set i 25, 25, rfl, by simp, rfl, by omega, HC.out.set HU.out HA2.out, (HW.out 25 _).1, (HW.out 25 _).2⟩
          · have HA2 : Hid (a = capP (Nt.rnd lo hi' b).long) := by show _ = _; rw [← HA.out, capP, if_neg h24]
            go_wp2
            go_roundg (t.size - (i + 1))
            case measure => rw [HM.out]; omega
            case rel => exact ⟨i + 1, ps.set i a, a, rfl, by simp, rfl, by omega, HC.out.set HU.out HA2.out, (HW.out _ _).1, (HW.out _ _).2⟩
        · have g1 : (hi' != -1) = true := by simp; omega
          have HA : Hid (capP (capP b.long * hi') = capP (Nt.rnd lo hi' b).long) := by show _ = _; rw [capP_mul hb1 hh1]; simp [Nt.long, show ¬ hi' = -1 by omega]
          generalize capP b.long = a at *
          have hm0 := Int.mul_le_mul bl.1 hh1 (by omega) (by omega)
          have hm1 := Int.mul_le_mul bl.2 hh9 (by omega) (by omega)
          clear hok huo sl hjl el hidx hl1 hur hb1
          generalize hp : a * hi' = pr at *
          by_cases h24 : 24 < pr
          · have HA2 : Hid ((25 : Int) = capP (Nt.rnd lo hi' b).long) := by show _ = _; rw [← HA.out, capP, if_pos h24]
            go_wp2
            go_roundg (t.size - (i + 1))
            case measure => rw [HM.out]; omega
            case rel => exact ⟨i + 1, ps.set i 25, 25, rfl, by simp, rfl, by omega, HC.out.set HU.out HA2.out, (HW.out 25 _).1, (HW.out 25 _).2⟩
          · have HA2 : Hid (pr = capP (Nt.rnd lo hi' b).long) := by show _ = _; rw [← HA.out, capP, if_neg h24]
            go_wp2
            go_roundg (t.size - (i + 1))
            case measure => rw [HM.out]; omega
            case rel => exact ⟨i + 1, ps.set i pr, pr, rfl, by simp, rfl, by omega, HC.out.set HU.out HA2.out, (HW.out _ _).1, (HW.out _ _).2⟩
    · have hie : i = t.size := by omega
      subst hie
      have HE : Hid (c = capP t.long) := HC.out.last hpos t 0 0 (t.subs_last 0 0)
      clear HPW
      go_wp2
      go_ret
      exact ⟨by rw [HE.out]; rfl, HK.out⟩
end Go.Proofs.YtcboiapggnmpfaaGreat

namespace Go.Proofs.YtcboiapggnmpfaaGreat
open Go.RowKit
set_option linter.unusedSimpArgs false
set_option linter.unusedVariables false

def SayP (w : World) (p : Prop) (e : Ending) (w' : World) : Prop := ∃ b : Bool, e = .returned (.bool b) ∧ (b = true ↔ p) ∧ Nw w w'
/-- The kinds and names of n steps that lie in block g. -/
structure StsM (w : World) (g n : Nat) (nm kd : Nat → Int) : Prop where
  lt : g < w.heap.size
  k : ∀ i, i < n → w.cell? ⟨g, i * 4 + 1, none⟩ = some (.int .i64 (kd i))
  m : ∀ i, i < n → w.cell? ⟨g, i * 4 + 2, none⟩ = some (.int .i64 (nm i))
theorem StsM.nw {w w' : World} {g n : Nat} {nm kd : Nat → Int} (h : StsM w g n nm kd) (k : Nw w w') : StsM w' g n nm kd :=
  ⟨Nat.lt_of_lt_of_le h.lt k.size, fun i hi => (k.cell h.lt (fun h => h)).trans (h.k i hi), fun i hi => (k.cell h.lt (fun h => h)).trans (h.m i hi)⟩
theorem StsM.le {w : World} {g n m : Nat} {nm kd : Nat → Int} (h : StsM w g n nm kd) (hm : m ≤ n) : StsM w g m nm kd :=
  ⟨h.lt, fun i hi => h.k i (by omega), fun i hi => h.m i (by omega)⟩
theorem firstOf_is {nm : Nat → Int} {x : Int} {n i : Nat} (hi : i < n) (he : nm i = x) (hb : ∀ j, j < i → ¬ nm j = x) : firstOf nm x n = i := by
  obtain ⟨f1, f2⟩ := firstOf_spec nm x n
  by_cases h : firstOf nm x n < n
  · obtain ⟨g1, g2⟩ := f1 h
    by_cases c : firstOf nm x n < i
    · exact absurd g1 (hb _ c)
    · by_cases d : i < firstOf nm x n
      · exact absurd he (g2 i d)
      · omega
  · exact absurd he ((f2 h).2 i hi)
theorem firstOf_no {nm : Nat → Int} {x : Int} {n : Nat} (hb : ∀ j, j < n → ¬ nm j = x) : firstOf nm x n = n := by
  obtain ⟨f1, f2⟩ := firstOf_spec nm x n
  by_cases h : firstOf nm x n < n
  · exact absurd (f1 h).1 (hb _ h)
  · exact (f2 h).1
theorem box2 {w w1 : World} {A B : Array Value} {t u : TypeId} (k : Nw ((w.alloc (.cells A t)).alloc (.cells B u)) w1) :
    (∀ (j : Nat) v, A[j]? = some v → w1.cell? ⟨w.heap.size, j, none⟩ = some v) ∧ (∀ (j : Nat) v, B[j]? = some v → w1.cell? ⟨w.heap.size + 1, j, none⟩ = some v) ∧ w.heap.size + 1 < w1.heap.size ∧ Nw w w1 := by
  have hs : ((w.alloc (.cells A t)).alloc (.cells B u)).heap.size = w.heap.size + 2 := by simp
  refine ⟨fun j v hv => ?_, fun j v hv => ?_, by have := k.size; omega, (((Kp.refl _ w).alloc _).alloc _).trans k⟩
  · rw [k.cell (by show w.heap.size < _; omega) (fun h => h)]
    rw [← hv]
    simp [go_sem, World.cell?_alloc_at]
  · rw [k.cell (by show w.heap.size + 1 < _; omega) (fun h => h)]
    rw [← hv]
    simp [go_sem, World.cell?_alloc_at]
set_option maxRecDepth 100000 in
set_option maxHeartbeats 1000000 in
theorem firstNamed_any (g n c : Nat) (nm kd : Nat → Int) (x : Int) (w : World) (h : StsM w g n nm kd) (hn : n ≤ 10000) :
    Calls Tryz.prog 180 #[.slice (some ⟨g, 0, none⟩) n c, .int .i64 x] w fun e w' => e = .returned (.int .i64 (firstOf nm x n : Nat)) ∧ Nw w w' := by
  have H : Hid (StsM w g n nm kd) := h
  clear h
  go_enter Tryz.func180, Tryz.ntmps180
  go_wp2
  go_loopg [5] n (fun m v wr => ∃ i : Nat, v = .int .i64 i ∧ m = n - i ∧ i ≤ n ∧ (∀ j, j < i → ¬ nm j = x) ∧ Nw w wr)
  case atStart => exact ⟨0, rfl, rfl, by omega, (fun j hj => by omega), Kp.refl _ _⟩
  case round =>
    obtain ⟨i, rfl, hm, hi, hb, hk⟩ := hrel
    have HB : Hid (∀ j, j < i → ¬ nm j = x) := hb
    have HK : Hid (Nw w wr) := hk
    have HM : Hid (_ = n - i) := hm
    clear hb hm
    by_cases hil : i < n
    · have d := (H.out.nw hk).m i hil
      clear hk
      by_cases he : nm i = x
      · have he' : (nm i == x) = true := by simp [he]
        have HE : Hid (firstOf nm x n = i) := firstOf_is hil he HB.out
        clear he
        generalize nm i = y at *
        go_wp2
        go_ret
        exact ⟨by rw [HE.out]; rfl, HK.out⟩
      · have he' : (nm i == x) = false := by simp [he]
        have HB2 : Hid (∀ j, j < i + 1 → ¬ nm j = x) := by
          intro j hj
          by_cases e : j = i
          · subst e; exact he
          · exact HB.out j (by omega)
        clear he
        generalize nm i = y at *
        go_wp2
        go_roundg (n - (i + 1))
        case measure => rw [HM.out]; omega
        case rel => exact ⟨i + 1, by simp, rfl, by omega, HB2.out, HK.out⟩
    · have hie : i = n := by omega
      subst hie
      have HE : Hid (firstOf nm x i = i) := firstOf_no HB.out
      clear hk
      go_wp2
      go_ret
      exact ⟨by rw [HE.out]; rfl, HK.out⟩
/-- What is asked of a term. -/
def TermR (l : List Int) (nm kd : Nat → Int) (S : Nat) (k : Nat) (kind of fd : Int) : Prop :=
  of = 0 ∨ (of = 1 ∧ hasFd l kind fd = true) ∨ (2 ≤ of ∧ hasN S (of - 2) = true ∧ firstOf nm (of - 2) k < k ∧ hasFd l (kd (firstOf nm (of - 2) k)) fd = true)
set_option maxRecDepth 100000 in
set_option maxHeartbeats 1000000 in
theorem termR_any (l : List Int) (hl : l.length ≤ 4) (g k c : Nat) (nm kd : Nat → Int) (S : Nat) (hS : S < 2 ^ 26) (kind of fd num : Int) (hof : 0 ≤ of ∧ of ≤ 27) (w : World) (h : StsM w g k nm kd) (hn : k ≤ 10000) :
    Calls Tryz.prog 181 #[schV l, .slice (some ⟨g, 0, none⟩) k c, .int .i64 kind, .agg #[.int .i64 of, .int .i64 fd, .int .i64 num], .int .i64 S] w (SayP w (TermR l nm kd S k kind of fd)) := by
  have H : Hid (StsM w g k nm kd) := h
  have hlt := h.lt
  obtain ⟨hof0, hof1⟩ := hof
  clear h
  have HHF : Hid (∀ a b W, Calls Tryz.prog 136 #[schV l, .int .i64 a, .int .i64 b] W fun e w' => e = .returned (.bool (hasFd l a b)) ∧ Nw W w') := fun a b W => hasField_any l a b W hl
  by_cases h0 : of = 0
  · have g0 : (of == 0) = true := by simp [h0]
    have HP : Hid (TermR l nm kd S k kind of fd) := Or.inl h0
    generalize TermR l nm kd S k kind of fd = pp at *
    clear h0
    unfold schV
    go_enter Tryz.func181, Tryz.ntmps181
    go_wp2
    go_ret
    exact ⟨true, rfl, ⟨fun _ => HP.out, fun _ => rfl⟩, by first | exact (Kp.refl _ w).alloc _ | exact ((Kp.refl _ w).alloc _).alloc _⟩
  · have g0 : (of == 0) = false := by simp [h0]
    by_cases h1 : of = 1
    · have g1 : (of == 1) = true := by simp [h1]
      have HP : Hid (TermR l nm kd S k kind of fd ↔ hasFd l kind fd = true) := by
        constructor
        · rintro (h | ⟨_, h⟩ | ⟨h, _⟩)
          · exact absurd h h0
          · exact h
          · omega
        · intro h; exact Or.inr (Or.inl ⟨h1, h⟩)
      generalize TermR l nm kd S k kind of fd = pp at *
      clear h1 h0
      unfold schV at *
      go_enter Tryz.func181, Tryz.ntmps181
      go_wp2_with fail
      refine (HHF.out _ _ _).mono ?_
      rintro e w1 ⟨rfl, k1⟩
      generalize hasFd l kind fd = hv at *
      go_wp2
      go_ret
      exact ⟨hv, rfl, HP.out.symm, by first | exact ((Kp.refl _ w).alloc _).trans k1 | exact (((Kp.refl _ w).alloc _).alloc _).trans k1⟩
    · have h2 : 2 ≤ of := by omega
      have g1 : (of == 1) = false := by simp [h1]
      have HP : Hid (TermR l nm kd S k kind of fd ↔ (hasN S (of - 2) = true ∧ firstOf nm (of - 2) k < k ∧ hasFd l (kd (firstOf nm (of - 2) k)) fd = true)) := by
        constructor
        · rintro (h | ⟨h, _⟩ | ⟨_, h⟩)
          · exact absurd h h0
          · exact absurd h h1
          · exact h
        · intro h; exact Or.inr (Or.inr ⟨h2, h⟩)
      have HFN : Hid (∀ W, Nw w W → Calls Tryz.prog 180 #[.slice (some ⟨g, 0, none⟩) k c, .int .i64 (of - 2)] W fun e w' => e = .returned (.int .i64 (firstOf nm (of - 2) k : Nat)) ∧ Nw W w') := fun W kW => firstNamed_any g k c nm kd (of - 2) W (H.out.nw kW) hn
      have hfl := firstOf_le nm (of - 2) k
      have HKD : Hid (∀ W, Nw w W → firstOf nm (of - 2) k < k → W.cell? ⟨g, firstOf nm (of - 2) k * 4 + 1, none⟩ = some (.int .i64 (kd (firstOf nm (of - 2) k)))) := fun W kW h => (H.out.nw kW).k _ h
      have HHS : Hid (∀ W, Calls Tryz.prog 179 #[.int .i64 S, .int .i64 (of - 2)] W fun e w' => e = .returned (.bool (hasN S (of - 2))) ∧ w' = W) := fun W => hasSet_any S (of - 2) W hS
      generalize TermR l nm kd S k kind of fd = pp at *
      generalize firstOf nm (of - 2) k = F at *
      generalize hasN S (of - 2) = B1 at *
      clear h1 h0
      unfold schV at *
      go_enter Tryz.func181, Tryz.ntmps181
      go_wp2_with fail
      refine (HFN.out _ (((Kp.refl _ w).alloc _).alloc _)).mono ?_
      rintro e w1 ⟨rfl, k1⟩
      obtain ⟨b1, b2, hl1, kk⟩ := box2 k1
      have K1 : Hid (Nw w w1) := kk
      have c0 := b1 0 _ rfl
      have c1 := b1 1 _ rfl
      have c2 := b1 2 _ rfl
      have c3 := b1 3 _ rfl
      have c4 := b1 4 _ rfl
      have d0 := b2 0 _ rfl
      have d1 := b2 1 _ rfl
      have d2 := b2 2 _ rfl
      have hx := HKD.out w1 kk
      clear b1 b2 k1 kk HFN HKD
      cases B1 with
      | false =>
        have HF : Hid (¬ pp) := by intro hp; have := (HP.out.1 hp).1; cases this
        go_wp2
        go_quiet ((go_at_call 179; refine Calls.quiet_of_same (HHS.out _)))
        go_wp2
        go_ret
        exact ⟨false, rfl, ⟨(fun h => by cases h), fun h => absurd h HF.out⟩, by first | exact K1.out | exact K1.out.drewN _⟩
      | true =>
        by_cases hF : F = k
        · have g2 : decide (F < k) = false := by simp; omega
          have HF : Hid (¬ pp) := by intro hp; have := (HP.out.1 hp).2.1; omega
          clear hx hF
          go_wp2
          go_quiet ((go_at_call 179; refine Calls.quiet_of_same (HHS.out _)))
          go_wp2
          go_ret
          exact ⟨false, rfl, ⟨(fun h => by cases h), fun h => absurd h HF.out⟩, by first | exact K1.out | exact K1.out.drewN _⟩
        · have hFk : F < k := by omega
          have g2 : decide ((F : Int) < (k : Int)) = true := by simp; omega
          have g3 : (F : Int) < (k : Int) := by omega
          have hcF := hx hFk
          have hgl : g < w1.heap.size := Nat.lt_of_lt_of_le hlt K1.out.size
          have HT : Hid (hasFd l (kd F) fd = true ↔ pp) := by
            constructor
            · intro h; exact HP.out.2 ⟨rfl, hFk, h⟩
            · intro h; exact (HP.out.1 h).2.2
          clear hx hF HP
          generalize kd F = kF at *
          have HHV : Hid (∀ W, Calls Tryz.prog 136 #[.agg #[.int .i64 l.length, .int .i64 (scF l 0), .int .i64 (scF l 1), .int .i64 (scF l 2), .int .i64 (scF l 3)], .int .i64 kF, .int .i64 fd] W fun e w' => e = .returned (.bool (hasFd l kF fd)) ∧ Nw W w') := fun W => HHF.out kF fd W
          generalize hasFd l kF fd = hv at *
          have HSW : Hid (∀ W, Nw w1 W → (W.cell? ⟨w.heap.size, 0, none⟩ = some (.int .i64 l.length) ∧ W.cell? ⟨w.heap.size, 1, none⟩ = some (.int .i64 (scF l 0)) ∧ W.cell? ⟨w.heap.size, 2, none⟩ = some (.int .i64 (scF l 1)) ∧ W.cell? ⟨w.heap.size, 3, none⟩ = some (.int .i64 (scF l 2)) ∧ W.cell? ⟨w.heap.size, 4, none⟩ = some (.int .i64 (scF l 3)) ∧ W.cell? ⟨w.heap.size + 1, 1, none⟩ = some (.int .i64 fd) ∧ W.cell? ⟨g, F * 4 + 1, none⟩ = some (.int .i64 kF))) := by
            intro W kW
            have y0 : w.heap.size < w1.heap.size := by omega
            exact ⟨(kW.cell y0 (fun h => h)).trans c0, (kW.cell y0 (fun h => h)).trans c1, (kW.cell y0 (fun h => h)).trans c2, (kW.cell y0 (fun h => h)).trans c3, (kW.cell y0 (fun h => h)).trans c4, (kW.cell hl1 (fun h => h)).trans d1, (kW.cell hgl (fun h => h)).trans hcF⟩
          go_wp2
          go_region_held3 (fun w' => w'.cell? ⟨w.heap.size, 0, none⟩ = some (.int .i64 l.length) ∧ w'.cell? ⟨w.heap.size, 1, none⟩ = some (.int .i64 (scF l 0)) ∧ w'.cell? ⟨w.heap.size, 2, none⟩ = some (.int .i64 (scF l 1)) ∧ w'.cell? ⟨w.heap.size, 3, none⟩ = some (.int .i64 (scF l 2)) ∧ w'.cell? ⟨w.heap.size, 4, none⟩ = some (.int .i64 (scF l 3)) ∧ w'.cell? ⟨w.heap.size + 1, 1, none⟩ = some (.int .i64 fd) ∧ w'.cell? ⟨g, F * 4 + 1, none⟩ = some (.int .i64 kF)) (first | exact HSW.out _ (Kp.refl _ _) | exact HSW.out _ ((Kp.refl _ _).drewN _) | exact HSW.out _ (((Kp.refl _ _).drewN _).trans k9) | exact HSW.out _ k9)
            ((first | (go_at_call 179; refine (HHS.out _).mono ?_; rintro e9 w9 ⟨rfl, rfl⟩) | (go_at_call 136; refine (HHV.out _).mono ?_; rintro e9 w9 ⟨rfl, k9⟩)))
          all_goals
            go_wp2
            go_ret
            exact ⟨hv, rfl, HT.out, by first | exact K1.out.trans k9 | exact (K1.out.drewN _).trans k9 | exact ((K1.out.drewN _).trans k9).drewN _⟩
end Go.Proofs.YtcboiapggnmpfaaGreat
