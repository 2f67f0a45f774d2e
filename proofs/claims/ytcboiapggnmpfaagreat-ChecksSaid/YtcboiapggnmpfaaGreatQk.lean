/- Laws on copy and make for rows of instructions; walks: spotterlaw: pick, handed. -/
import Derived.Test.YtcboiapggnmpfaaGreatQb
import Derived.Laws.CopyOwn
import Derived.Deep.MidRow
import Derived.Test.YtcboiapggnmpfaaGreatVf
namespace Go.Proofs.YtcboiapggnmpfaaGreat
open Go.RowKit
set_option linter.unusedSimpArgs false
set_option linter.unusedVariables false

theorem run_copy_rowS {P : Program} (w : World) (dT sT ty elem : TypeId) (g dLen dCap : Nat) (a : Addr) (sLen sCap sz : Nat) (cur : Array Value) (t : TypeId) (cs : List Value)
    (hu : P.underlying dT = some (.slice elem)) (hs : (P.info? elem).map (·.size) = some sz)
    (hg : w.heap[g]? = some (.cells cur t (0, 0))) (hn : cs.length = Nat.min sLen dLen * sz)
    (hsrc : ∀ j v, cs[j]? = some v → w.cell? (a.add j) = some v) (hfit : cs.length ≤ cur.size) (h1 : ∀ v ∈ cs, v.oneCell' = true) :
    (Builtin.copy_ #[dT, sT] ty #[.slice (some ⟨g, 0, none⟩) dLen dCap, .slice (some a) sLen sCap]).run P w =
      .ok (goInt (Nat.min sLen dLen)) (w.setRow g (cs ++ cur.toList.drop cs.length).toArray) := by
  have hl := run_loadCells_list (P := P) w a cs hsrc
  have hst := run_storeCells_at P g 0 t cs 0 cur w hg (by simpa using hfit) h1
  cases hq : P.info? elem with
  | none => simp [hq] at hs
  | some i =>
    have hi : i.size = sz := by simpa [hq] using hs
    simp [Builtin.copy_, run_underlying hu, Builtin.lenOf, Builtin.firstCells, sizeOf, typeInfo, hq, hi, ← hn, hl, hst]
theorem run_copy_noneS {P : Program} (w : World) (dT sT ty elem : TypeId) (d a : Option Addr) (dLen dCap sLen sCap : Nat) (hu : P.underlying dT = some (.slice elem)) (hs : ((P.info? elem).map (·.size)).isSome = true) (hn : Nat.min sLen dLen = 0) :
    (Builtin.copy_ #[dT, sT] ty #[.slice d dLen dCap, .slice a sLen sCap]).run P w = .ok (goInt 0) w := by
  cases hq : P.info? elem with
  | none => simp [hq] at hs
  | some i =>
    have hl : ∀ (x : Addr), (loadCells x 0).run P w = .ok #[] w := fun x => by simpa using run_loadCells_list (P := P) w x [] (by simp)
    cases d <;> cases a <;> simp [Builtin.copy_, run_underlying hu, Builtin.lenOf, Builtin.firstCells, sizeOf, typeInfo, hq, hn, storeCells, hl]
/-- copy into the head of a row that is known whole, elements of any size; a source of no element may lie nowhere. -/
theorem wpList_copy_S {P : Program} {w : World} {ops : Array Oper} {rest : List Oper} {o : Oper} {a : Act} {Q : Exit → Act → World → Prop} (hgd : o.guard = none) (d s : Operand) (dT sT : TypeId)
    (ho : o.op = .call { callee := .builtin .copy, args := #[d, s], argTypes := #[dT, sT] }) (elem : TypeId) (hu : P.underlying dT = some (.slice elem)) (sz : Nat) (hsz : (P.info? elem).map (·.size) = some sz)
    (g dLen dCap : Nat) (sp : Option Addr) (sLen sCap : Nat) (hd : a.eval d = .slice (some ⟨g, 0, none⟩) dLen dCap) (hs : a.eval s = .slice sp sLen sCap)
    (xs : List Value) (hr : Row w g elem xs) (cs : List Value) (hle : sLen ≤ dLen) (hn : cs.length = sLen * sz)
    (hsrc : ¬ sLen = 0 → ∃ b, sp = some ⟨b, 0, none⟩ ∧ ∀ j v, cs[j]? = some v → w.cell? ⟨b, j, none⟩ = some v) (hfit : cs.length ≤ xs.length) (h1 : ∀ v ∈ cs, v.oneCell' = true)
    (h : ∀ w', Row w' g elem (cs ++ xs.drop cs.length) → Kp (fun b => b = g) w w' → wpList P ops Q rest (a.put o.dst (goInt sLen)) w') : wpList P ops Q (o :: rest) a w := by
  have hmin : Nat.min sLen dLen = sLen := Nat.min_eq_left hle
  by_cases h0 : sLen = 0
  · subst h0
    refine wpList_plain hgd fun K hK => ?_
    have hrun := run_copy_noneS (P := P) w dT sT o.type elem (some ⟨g, 0, none⟩) sp dLen dCap 0 sCap hu (by rw [hsz]; rfl) (by simp [Nat.min])
    unfold Oper.wp
    simp [execOp, ho, resolve, invoke, builtin, hd, hs, hrun, Result.andThen]
    have hcs : cs = [] := List.eq_nil_of_length_eq_zero (by simpa using hn)
    exact hK _ _ (h w (by rw [hcs]; simpa using hr) (Kp.refl _ _))
  · obtain ⟨b, rfl, hb⟩ := hsrc h0
    refine wpList_plain hgd fun K hK => ?_
    have hsrc' : ∀ j v, cs[j]? = some v → w.cell? ((⟨b, 0, none⟩ : Addr).add j) = some v := by
      intro j v hv
      have hadd : (⟨b, 0, none⟩ : Addr).add j = ⟨b, j, none⟩ := by unfold Addr.add; split <;> simp_all
      rw [hadd]; exact hb j v hv
    have hrun := run_copy_rowS (P := P) w dT sT o.type elem g dLen dCap ⟨b, 0, none⟩ sLen sCap sz _ elem cs hu hsz hr (by rw [hmin]; exact hn) hsrc' (by simpa using hfit) h1
    rw [hmin] at hrun
    unfold Oper.wp
    simp [execOp, ho, resolve, invoke, builtin, hd, hs, hrun, Result.andThen]
    refine hK _ _ (h _ ?_ ?_)
    · have := setRow_heap w g _ (cs ++ xs.drop cs.length).toArray elem _ hr
      simpa [Row] using this
    · exact ⟨rfl, rfl, rfl, by simp [World.setRow], fun k _ hk => setRow_other w g k _ (by omega)⟩
def codeC (l : List In) : List Value := (l.map insC).flatten
theorem codeC_length (l : List In) : (codeC l).length = l.length * 14 := by
  induction l with
  | nil => rfl
  | cons x r ih =>
    have : codeC (x :: r) = insC x ++ codeC r := by simp [codeC]
    rw [this, List.length_append, ih, List.length_cons]
    simp [insC]; omega
theorem codeC_append (l m : List In) : codeC (l ++ m) = codeC l ++ codeC m := by simp [codeC]
theorem codeC_get : ∀ (l : List In) (i k : Nat) (x : In), l[i]? = some x → k < 14 → (codeC l)[i * 14 + k]? = (insC x)[k]? := by
  intro l
  induction l with
  | nil => intro i k x h; simp at h
  | cons y r ih =>
    intro i k x h hk
    have e : codeC (y :: r) = insC y ++ codeC r := by simp [codeC]
    have hl : (insC y).length = 14 := rfl
    rw [e]
    cases i with
    | zero =>
      simp at h; subst h
      rw [List.getElem?_append_left (by omega)]
      simp
    | succ i =>
      simp at h
      rw [List.getElem?_append_right (by omega), hl]
      have : (i + 1) * 14 + k - 14 = i * 14 + k := by omega
      rw [this]; exact ih i k x h hk
/-- Every place in the cells of instructions is a place of one of them. -/
theorem codeC_find {l : List In} {j : Nat} {v : Value} (h : (codeC l)[j]? = some v) : ∃ i k x, j = i * 14 + k ∧ k < 14 ∧ l[i]? = some x ∧ (insC x)[k]? = some v := by
  have hj : j < l.length * 14 := by rw [← codeC_length]; exact (List.getElem?_eq_some_iff.1 h).1
  have hi : j / 14 < l.length := by omega
  refine ⟨j / 14, j % 14, l[j / 14], by omega, by omega, by simp [hi], ?_⟩
  rw [← codeC_get l (j / 14) (j % 14) l[j / 14] (by simp [hi]) (by omega)]
  have : j / 14 * 14 + j % 14 = j := by omega
  rw [this]; exact h
theorem Code'.cells {w : World} {g : Nat} {l : List In} (h : Code' w g l) : ∀ j v, (codeC l)[j]? = some v → w.cell? ⟨g, j, none⟩ = some v := by
  intro j v hv
  obtain ⟨i, k, x, e, hk, hx, hv'⟩ := codeC_find hv
  rw [e]
  exact h.ins i x hx k v hv'
theorem Code'.of_cells {w : World} {g : Nat} {l : List In} (hl : g < w.heap.size) (h : ∀ j v, (codeC l)[j]? = some v → w.cell? ⟨g, j, none⟩ = some v) : Code' w g l := by
  refine ⟨hl, fun i x hx k v hv => ?_⟩
  have hk : k < 14 := (List.getElem?_eq_some_iff.1 hv).1
  exact h (i * 14 + k) v (by rw [codeC_get l i k x hx hk]; exact hv)
theorem codeC_one (l : List In) : ∀ v ∈ codeC l, v.oneCell' = true := by
  intro v hv
  obtain ⟨y, hy, hv⟩ := List.mem_flatten.1 hv
  obtain ⟨x, _, rfl⟩ := List.mem_map.1 hy
  simp only [insC, List.mem_cons, List.not_mem_nil, or_false] at hv
  rcases hv with h | h | h | h | h | h | h | h | h | h | h | h | h | h <;> subst h <;> rfl
theorem pick_any (c n : Int) (w : World) (hn : 0 < n) (h0 : -9223372036854775808 ≤ c) (h1 : c ≤ 9223372036854775807) (hn1 : n ≤ 9223372036854775807) :
    Calls Tryz.prog 42 #[.int .i64 c, .int .i64 n] w fun e w' => ∃ k : Nat, e = .returned (.int .i64 k) ∧ (k : Int) < n ∧ w' = w := by
  go_enter Tryz.func42, Tryz.ntmps42
  go_wp2
  all_goals go_ret
  · rename_i hc
    have e : -((c + 1).tmod n) = (-(c + 1)) % n := by
      rw [← Int.neg_tmod, Int.tmod_eq_emod_of_nonneg (by omega)]
    have h2 := Int.emod_nonneg (-(c + 1)) (b := n) (by omega)
    have h3 := Int.emod_lt_of_pos (-(c + 1)) hn
    refine ⟨((-(c + 1)) % n).toNat, ?_, by omega, rfl⟩
    have e2 : (((-(c + 1)) % n).toNat : Int) = (-(c + 1)) % n := by omega
    rw [e2, ← e]; rfl
  · have h2 := Int.emod_nonneg c (b := n) (by omega)
    have h3 := Int.emod_lt_of_pos c hn
    refine ⟨(c % n).toNat, ?_, by omega, rfl⟩
    have e2 : ((c % n).toNat : Int) = c % n := by omega
    rw [e2]; rfl
theorem Tryz.info40 : (Tryz.prog.info? 40).map (fun i => (i.zero, i.size, i.bytes)) = some (some (.agg #[.int .i64 0, .int .i64 0, .int .i64 0, .int .i64 0, .int .i64 0, .int .i64 0, .int .i64 0, .int .i64 0, .int .i64 0, .int .i64 0, .int .i64 0, .int .i64 0, .int .i64 0, .int .i64 0]), 14, 112) := by kernel_rfl
theorem made_ins (n : Nat) : (madeCells #[.int .i64 0, .int .i64 0, .int .i64 0, .int .i64 0, .int .i64 0, .int .i64 0, .int .i64 0, .int .i64 0, .int .i64 0, .int .i64 0, .int .i64 0, .int .i64 0, .int .i64 0, .int .i64 0] n).toList = List.replicate n (.int .i64 0) := by
  have hx : ∀ x : Nat, (#[.int .i64 0, .int .i64 0, .int .i64 0, .int .i64 0, .int .i64 0, .int .i64 0, .int .i64 0, .int .i64 0, .int .i64 0, .int .i64 0, .int .i64 0, .int .i64 0, .int .i64 0, .int .i64 0] : Array Value)[x % 14]! = Value.int .i64 0 := by
    intro x
    have h : x % 14 < 14 := by omega
    generalize x % 14 = y at h
    have : y = 0 ∨ y = 1 ∨ y = 2 ∨ y = 3 ∨ y = 4 ∨ y = 5 ∨ y = 6 ∨ y = 7 ∨ y = 8 ∨ y = 9 ∨ y = 10 ∨ y = 11 ∨ y = 12 ∨ y = 13 := by omega
    rcases this with h | h | h | h | h | h | h | h | h | h | h | h | h | h <;> subst h <;> rfl
  have hs : (#[.int .i64 0, .int .i64 0, .int .i64 0, .int .i64 0, .int .i64 0, .int .i64 0, .int .i64 0, .int .i64 0, .int .i64 0, .int .i64 0, .int .i64 0, .int .i64 0, .int .i64 0, .int .i64 0] : Array Value).size = 14 := rfl
  simp only [madeCells, hs, hx]
  apply List.ext_getElem?
  intro k
  simp [List.getElem?_replicate]
  by_cases h : k < n
  · simp [h]
  · simp [h]
theorem Row.of_fullS {w : World} {base g n size : Nat} {e : TypeId} {xs : List Value} (h : w.ownsRow base e size (.slice (some ⟨g, 0, none⟩) n n) n xs) : Row w g e xs := by
  obtain ⟨h1, h2⟩ := h
  rcases h2 with ⟨h2, _⟩ | ⟨g', cap, cur, h2, _, h3, _, _, h4, h5⟩
  · simp at h2
  · simp at h2
    obtain ⟨rfl, rfl⟩ := h2
    rw [Row, h3]
    have : cur.toList = xs := by
      rw [← h5, List.take_of_length_le]
      simp [h4]
    rw [← this]
def mk1 : In := ⟨77, 0, 0, tst0⟩
def mk2 : In := ⟨0, 77, 0, tst0⟩
end Go.Proofs.YtcboiapggnmpfaaGreat

namespace Go.Proofs.YtcboiapggnmpfaaGreat
open Go.RowKit

theorem Row.setCells {g : Nat} {e : TypeId} : ∀ (vs : List Value) (w : World) (o : Nat) (xs ys zs : List Value), Row w g e (xs ++ (ys ++ zs)) → xs.length = o → ys.length = vs.length → Row (w.setCells g o vs) g e (xs ++ (vs ++ zs)) := by
  intro vs
  induction vs with
  | nil =>
    intro w o xs ys zs h _ hl
    have : ys = [] := List.eq_nil_of_length_eq_zero (by simpa using hl)
    subst this
    simpa [World.setCells] using h
  | cons v r ih =>
    intro w o xs ys zs h ho hl
    cases ys with
    | nil => simp at hl
    | cons y ys =>
      have h1 := h.set o v
      have e1 : (xs ++ (y :: ys ++ zs)).set o v = (xs ++ [v]) ++ (ys ++ zs) := by
        rw [List.set_append_right _ _ (by omega), ho, Nat.sub_self]
        simp
      rw [e1] at h1
      have h2 := ih (w.setCell ⟨g, o, none⟩ v) (o + 1) (xs ++ [v]) ys zs h1 (by simp [ho]) (by simpa using hl)
      simp only [World.setCells]
      simpa using h2
theorem Kp.setCells {S : Nat → Prop} {a : World} {g : Nat} (hg : a.heap.size ≤ g ∨ S g) : ∀ (vs : List Value) (w : World) (o : Nat), Kp S a w → Kp S a (w.setCells g o vs) := by
  intro vs
  induction vs with
  | nil => intro w o h; exact h
  | cons v r ih => intro w o h; exact ih _ _ (h.setCell (p := ⟨g, o, none⟩) hg v)
theorem wpList_store_Row {P : Program} {ops : Array Oper} {rest : List Oper} {op : Oper} {a : Act} {w : World} {Q : Exit → Act → World → Prop} (hgd : op.guard = none) (ty : TypeId) (x y : Operand) (ho : op.op = .store ty x y)
    (b o : Nat) (cs : List Value) (hx : a.eval x = .pointer (some ⟨b, o, none⟩)) (hy : a.eval y = .agg cs.toArray) (e : TypeId) (xs ys zs : List Value) (hr : Row w b e (xs ++ (ys ++ zs))) (hxo : xs.length = o) (hl : ys.length = cs.length)
    (hi : (P.info? ty).map (·.size) = some cs.length) (h1 : ∀ v ∈ cs, v.oneCell' = true)
    (h : ∀ w', Row w' b e (xs ++ (cs ++ zs)) → Kp (fun k => k = b) w w' → wpList P ops Q rest (a.put op.dst undef) w') : wpList P ops Q (op :: rest) a w := by
  refine wpList_store_mid hgd ty x y ho b o cs.toArray hx hy ?_ (by simpa using hi) (all_oneCell_toArray h1) ?_
  · intro j hj
    have hj' : j < cs.length := by simpa using hj
    refine ⟨?_, hr.froz _⟩
    rw [hr.cell, List.getElem?_append_right (by omega), List.getElem?_append_left (by omega)]
    have : o + j - xs.length < ys.length := by omega
    simp [this]
  · exact h _ (by simpa using Row.setCells cs w o xs ys zs hr hxo hl) (by simpa using Kp.setCells (S := fun k => k = b) (Or.inr rfl) cs w o (Kp.refl _ _))
end Go.Proofs.YtcboiapggnmpfaaGreat

namespace Go.Proofs.YtcboiapggnmpfaaGreat
open Go.RowKit
set_option linter.unusedSimpArgs false
set_option linter.unusedVariables false

theorem codeC_oneI (x : In) : ∀ v ∈ insC x, v.oneCell' = true := by
  have := codeC_one [x]
  simpa [codeC] using this
/-- What handed answers: a list of its own with two more in its spare room. -/
def HandPost (w : World) (l : List In) (e : Ending) (w' : World) : Prop :=
  e = .returned (.slice (some ⟨w.heap.size, 0, none⟩) l.length (l.length + 2)) ∧ Row w' w.heap.size 40 (codeC (l ++ [mk1, mk2])) ∧ Nw w w'
set_option maxRecDepth 100000 in
set_option maxHeartbeats 1000000 in
theorem handed_any (p : Option Addr) (cap : Nat) (l : List In) (w : World) (hp : CodeP w p l) (hm : l.length ≤ 800000000000) :
    Calls Tryz.prog 65 #[.slice p l.length cap] w (HandPost w l) := by
  obtain ⟨i0, hi0, hz0, hz1, hz2⟩ := info_parts Tryz.info40
  go_enter Tryz.func65, Tryz.ntmps65
  go_wp2_with (first | (at_make; refine wpList_make_full _ rfl _ _ 28 rfl w.heap.size 40 i0 (.agg #[.int .i64 0, .int .i64 0, .int .i64 0, .int .i64 0, .int .i64 0, .int .i64 0, .int .i64 0, .int .i64 0, .int .i64 0, .int .i64 0, .int .i64 0, .int .i64 0, .int .i64 0, .int .i64 0]) 14 Tryz.underlying28 hi0 hz0 hz1 _ _ _ _ (l.length + 2) rfl rfl ?a1 ?a2 ?b1 ?b2 ?b3 ?_) | fail)
  case a1 => omega
  case a2 => omega
  case b1 => rw [hz2]; omega
  case b2 => unfold maxLen; omega
  case b3 => exact Nat.le_refl _
  intro w1 hown1 hgrow1
  have R1 : Hid (Row w1 w.heap.size 40 (List.replicate ((l.length + 2) * 14) (.int .i64 0))) := by
    have := Row.of_fullS hown1
    rw [made_ins] at this
    exact this
  have K1 : Hid (Nw w w1) := (Kp.refl _ w).grown hgrow1 (by intro k hk; cases hk)
  have hs1 := R1.out.lt
  have C1 : Hid (CodeP w1 p l) := hp.nw K1.out
  clear hown1 hgrow1 hp
  go_wp2_with (first | (with_reducible (show Go.wpList _ _ _ ({ dst := _, op := Op.call { callee := Callee.builtin Builtin.copy, args := _, argTypes := _ }, type := _, pos := _, after := _, guard := _ } :: _) _ _); refine wpList_copy_S rfl _ _ 28 28 rfl 40 Tryz.underlying28 14 (by rw [hi0]; simp [hz1]) w.heap.size (l.length + 2) (l.length + 2) p l.length cap rfl rfl _ R1.out (codeC l) (by omega) (codeC_length l) ?c1 ?c2 (codeC_one l) ?_) | fail)
  case c1 =>
    intro h0
    obtain ⟨g, e, hc⟩ := C1.out (by intro e; rw [e] at h0; exact h0 rfl)
    exact ⟨g, e, hc.cells⟩
  case c2 => rw [codeC_length, List.length_replicate]; omega
  intro w2 hrow2 hk2
  have R2 : Hid (Row w2 w.heap.size 40 (codeC l ++ (List.replicate 14 (.int .i64 0) ++ List.replicate 14 (.int .i64 0)))) := by
    have e : (l.length + 2) * 14 - (codeC l).length = 28 := by rw [codeC_length]; omega
    have e2 : List.replicate 14 (Value.int .i64 0) ++ List.replicate 14 (.int .i64 0) = List.replicate 28 (.int .i64 0) := by rw [List.replicate_append_replicate]
    show Row _ _ _ _
    rw [e2]
    rw [e] at hrow2
    exact hrow2
  have K2 : Hid (Nw w w2) := K1.out.trans' hk2 (by intro b hb e; omega)
  clear hrow2 hk2 R1 K1 C1
  go_wp2_with (first | (with_reducible (show Go.wpList _ _ _ ({ dst := _, op := Op.store _ _ _, type := _, pos := _, after := _, guard := _ } :: _) _ _); refine wpList_store_Row rfl 40 _ _ rfl w.heap.size (l.length * 14) (insC mk1) rfl rfl 40 (codeC l) (List.replicate 14 (.int .i64 0)) (List.replicate 14 (.int .i64 0)) R2.out (codeC_length l) (by simp [insC]) ?d1 ?d2 ?_) | fail)
  case d1 => rw [hi0]; simp [hz1, insC]
  case d2 => exact codeC_oneI mk1
  intro w3 hrow3 hk3
  have R3 : Hid (Row w3 w.heap.size 40 (codeC (l ++ [mk1]) ++ (List.replicate 14 (.int .i64 0) ++ []))) := by
    have e : codeC (l ++ [mk1]) = codeC l ++ insC mk1 := by rw [codeC_append]; simp [codeC]
    show Row _ _ _ _
    rw [e, List.append_assoc, List.append_nil]; exact hrow3
  have K3 : Hid (Nw w w3) := K2.out.trans' hk3 (by intro b hb e; omega)
  clear hrow3 hk3 R2 K2
  go_wp2_with (first | (with_reducible (show Go.wpList _ _ _ ({ dst := _, op := Op.store _ _ _, type := _, pos := _, after := _, guard := _ } :: _) _ _); refine wpList_store_Row rfl 40 _ _ rfl w.heap.size ((l.length + 1) * 14) (insC mk2) rfl rfl 40 (codeC (l ++ [mk1])) (List.replicate 14 (.int .i64 0)) [] R3.out (by rw [codeC_length]; simp) (by simp [insC]) ?d1 ?d2 ?_) | fail)
  case d1 => rw [hi0]; simp [hz1, insC]
  case d2 => exact codeC_oneI mk2
  intro w4 hrow4 hk4
  have R4 : Hid (Row w4 w.heap.size 40 (codeC (l ++ [mk1, mk2]))) := by
    have e : codeC (l ++ [mk1, mk2]) = codeC (l ++ [mk1]) ++ insC mk2 := by
      have : l ++ [mk1, mk2] = (l ++ [mk1]) ++ [mk2] := by simp
      rw [this, codeC_append]; simp [codeC]
    show Row _ _ _ _
    rw [e]; exact hrow4
  have K4 : Hid (Nw w w4) := K3.out.trans' hk4 (by intro b hb e; omega)
  clear hrow4 hk4 R3 K3
  go_wp2
  go_ret
  exact ⟨rfl, R4.out, K4.out⟩
end Go.Proofs.YtcboiapggnmpfaaGreat
