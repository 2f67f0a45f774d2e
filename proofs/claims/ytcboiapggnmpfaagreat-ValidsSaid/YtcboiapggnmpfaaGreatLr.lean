/- The row: a script that came in, opened. -/
import Derived.Test.YtcboiapggnmpfaaGreatLk
import Derived.ProofKit
import Derived.ChangeSlices
import Derived.SizedLaws
import Derived.Deep.Slices
import Derived.OpenShut
namespace Go.Proofs.YtcboiapggnmpfaaGreat
open Go.ChangeShapes Go.WideShapes Go.ChangeAt Go.RowKit Go.Deep
set_option linter.unusedSimpArgs false
set_option linter.unusedVariables false

theorem Tryz.own : ownKnob Tryz.prog.godebug = none := by kernel_rfl
theorem Tryz.laidOut : laidOutB Tryz.prog = true := by kernel_rfl
/-- A struct type's fields: their types and where they begin. -/
def fieldsOf : TypeDesc → Option (List (TypeId × Nat))
  | .struct fs => some (fs.toList.map fun f => (f.type, f.offset))
  | _ => none
theorem struct_fields {H : Type} {enc : TypeId × Value → H} {P : Program} {w : World} {base : Nat} {spare : Nat → Bool} {held : Bool} {t : TypeId} {l : List (TypeId × Nat)} {fuel : Nat} {cs : List Value} {x : DataW H × List MemPlace}
    (h : (P.underlying t).map fieldsOf = some (some l)) (ht : DataW.trod enc P w base spare held fuel t cs = some x) :
    cs.length = P.cellsOf t ∧ ∃ n, ∀ (i : Nat) (ty : TypeId) (off : Nat), l[i]? = some (ty, off) → ∃ y, DataW.trod enc P w base spare held n ty ((cs.drop off).take (P.cellsOf ty)) = some y := by
  obtain ⟨d, hd, hl⟩ := Option.map_eq_some_iff.1 h
  cases d with
  | struct fs =>
    simp only [fieldsOf, Option.some.injEq] at hl
    obtain ⟨xs, n, _, _, hlen, hxs, hf⟩ := DataW.trod_struct hd ht
    refine ⟨hlen, n, fun i ty off hi => ?_⟩
    rw [← hl, List.getElem?_map] at hi
    obtain ⟨f, hf1, hf2⟩ := Option.map_eq_some_iff.1 hi
    simp only [Prod.mk.injEq] at hf2
    obtain ⟨rfl, rfl⟩ := hf2
    have hfi : fs[i]? = some f := by simpa using hf1
    have hlt : i < xs.length := by rw [hxs]; exact (Array.getElem?_eq_some_iff.1 hfi).1
    exact ⟨xs[i], by rw [hf i f hfi]; simp⟩
  | _ => simp [fieldsOf] at hl
theorem Tryz.fl44 : (Tryz.prog.underlying 44).map fieldsOf = some (some [(3, 0), (3, 1), (3, 2), (9, 3), (40, 4), (42, 18)]) := by kernel_rfl
theorem Tryz.fl40 : (Tryz.prog.underlying 40).map fieldsOf = some (some [(3, 0), (3, 1), (3, 2), (38, 3)]) := by kernel_rfl
theorem Tryz.fl38 : (Tryz.prog.underlying 38).map fieldsOf = some (some [(36, 0), (3, 3), (36, 4), (3, 7), (36, 8)]) := by kernel_rfl
theorem Tryz.fl36 : (Tryz.prog.underlying 36).map fieldsOf = some (some [(3, 0), (3, 1), (3, 2)]) := by kernel_rfl
theorem Tryz.fl42 : (Tryz.prog.underlying 42).map fieldsOf = some (some [(3, 0), (3, 1), (3, 2), (3, 3), (3, 4)]) := by kernel_rfl
theorem Tryz.cn3 : Tryz.prog.cellsOf 3 = 1 := by kernel_rfl
theorem Tryz.cn9 : Tryz.prog.cellsOf 9 = 1 := by kernel_rfl
theorem Tryz.cn44 : Tryz.prog.cellsOf 44 = 23 := by kernel_rfl
theorem Tryz.cn40 : Tryz.prog.cellsOf 40 = 14 := by kernel_rfl
theorem Tryz.cn38 : Tryz.prog.cellsOf 38 = 11 := by kernel_rfl
theorem Tryz.cn36 : Tryz.prog.cellsOf 36 = 3 := by kernel_rfl
theorem Tryz.cn42 : Tryz.prog.cellsOf 42 = 5 := by kernel_rfl
theorem Tryz.un3 : Tryz.prog.underlying 3 = some (.int .i64) := by kernel_rfl
theorem Tryz.un9 : Tryz.prog.underlying 9 = some .string := by kernel_rfl
section
variable {H : Type} {enc : TypeId × Value → H} {w : World} {base : Nat} {spare : Nat → Bool} {held : Bool}
theorem take_one {cs : List Value} {off : Nat} {v : Value} (h : (cs.drop off).take 1 = [v]) : cs[off]? = some v := by
  have : ((cs.drop off).take 1)[0]? = some v := by rw [h]; rfl
  rw [List.getElem?_take_of_lt (by omega), List.getElem?_drop] at this
  simpa using this
/-- A cell that holds an int. -/
def IntAt (cs : List Value) (k : Nat) : Prop := ∃ n : Int, cs[k]? = some (.int .i64 n) ∧ -9223372036854775808 ≤ n ∧ n ≤ 9223372036854775807
theorem int_field {n off : Nat} {cs : List Value} (h : ∃ y, DataW.trod enc Tryz.prog w base spare held n 3 ((cs.drop off).take (Tryz.prog.cellsOf 3)) = some y) : IntAt cs off := by
  obtain ⟨y, hy⟩ := h
  obtain ⟨m, hm, _, hw⟩ := DataW.trod_int Tryz.un3 hy
  rw [Tryz.cn3] at hm
  exact ⟨m, take_one hm, bounds_i64 hw⟩
theorem IntAt.sub {cs : List Value} {off n k : Nat} (h : IntAt ((cs.drop off).take n) k) (hk : k < n) : IntAt cs (off + k) := by
  obtain ⟨m, hm, hb⟩ := h
  rw [List.getElem?_take_of_lt hk, List.getElem?_drop] at hm
  exact ⟨m, hm, hb⟩
theorem term_ints {n : Nat} {cs : List Value} (h : ∃ y, DataW.trod enc Tryz.prog w base spare held n 36 cs = some y) : IntAt cs 0 ∧ IntAt cs 1 ∧ IntAt cs 2 := by
  obtain ⟨y, hy⟩ := h
  obtain ⟨_, m, hf⟩ := struct_fields Tryz.fl36 hy
  exact ⟨int_field (hf 0 _ _ rfl), int_field (hf 1 _ _ rfl), int_field (hf 2 _ _ rfl)⟩
theorem test_ints {n : Nat} {cs : List Value} (h : ∃ y, DataW.trod enc Tryz.prog w base spare held n 38 cs = some y) : ∀ k, k < 11 → IntAt cs k := by
  obtain ⟨y, hy⟩ := h
  obtain ⟨_, m, hf⟩ := struct_fields Tryz.fl38 hy
  have hc := Tryz.cn36
  have t0 := term_ints (hf 0 _ _ rfl)
  have t2 := term_ints (hf 2 _ _ rfl)
  have t4 := term_ints (hf 4 _ _ rfl)
  rw [hc] at t0 t2 t4
  intro k hk
  have : k = 0 ∨ k = 1 ∨ k = 2 ∨ k = 3 ∨ k = 4 ∨ k = 5 ∨ k = 6 ∨ k = 7 ∨ k = 8 ∨ k = 9 ∨ k = 10 := by omega
  rcases this with e | e | e | e | e | e | e | e | e | e | e <;> subst e
  · exact t0.1.sub (by omega)
  · exact t0.2.1.sub (by omega)
  · exact t0.2.2.sub (by omega)
  · exact int_field (hf 1 _ _ rfl)
  · exact t2.1.sub (by omega)
  · exact t2.2.1.sub (by omega)
  · exact t2.2.2.sub (by omega)
  · exact int_field (hf 3 _ _ rfl)
  · exact t4.1.sub (by omega)
  · exact t4.2.1.sub (by omega)
  · exact t4.2.2.sub (by omega)
theorem ins_ints {n : Nat} {cs : List Value} (h : ∃ y, DataW.trod enc Tryz.prog w base spare held n 40 cs = some y) : ∀ k, k < 14 → IntAt cs k := by
  obtain ⟨y, hy⟩ := h
  obtain ⟨_, m, hf⟩ := struct_fields Tryz.fl40 hy
  have t3 := test_ints (hf 3 _ _ rfl)
  rw [Tryz.cn38] at t3
  intro k hk
  by_cases h3 : k < 3
  · have : k = 0 ∨ k = 1 ∨ k = 2 := by omega
    rcases this with e | e | e <;> subst e
    · exact int_field (hf 0 _ _ rfl)
    · exact int_field (hf 1 _ _ rfl)
    · exact int_field (hf 2 _ _ rfl)
  · have := (t3 (k - 3) (by omega)).sub (by omega)
    have e : 3 + (k - 3) = k := by omega
    rw [e] at this; exact this
/-- A step that came in. -/
theorem opr_of {n : Nat} {cs : List Value} {x : DataW H × List MemPlace} (h : DataW.trod enc Tryz.prog w base spare held n 44 cs = some x) : ∃ o : Opr, cs = opC o ∧ o.Fit := by
  obtain ⟨hl, m, hf⟩ := struct_fields Tryz.fl44 h
  rw [Tryz.cn44] at hl
  obtain ⟨k0, e0, _⟩ := int_field (hf 0 _ _ rfl)
  obtain ⟨k1, e1, b0, b1⟩ := int_field (hf 1 _ _ rfl)
  obtain ⟨k2, e2, _⟩ := int_field (hf 2 _ _ rfl)
  obtain ⟨ys, hys⟩ := hf 3 _ _ rfl
  obtain ⟨s, hs, _, hsz⟩ := DataW.trod_string Tryz.un9 hys
  rw [Tryz.cn9] at hs
  have e3 := take_one hs
  have ti := ins_ints (hf 4 _ _ rfl)
  rw [Tryz.cn40] at ti
  obtain ⟨ye, hye⟩ := hf 5 _ _ rfl
  obtain ⟨_, m2, hg⟩ := struct_fields Tryz.fl42 hye
  rw [Tryz.cn42] at hg
  obtain ⟨i0, j0, _⟩ := (ti 0 (by omega)).sub (by omega)
  obtain ⟨i1, j1, _⟩ := (ti 1 (by omega)).sub (by omega)
  obtain ⟨i2, j2, _⟩ := (ti 2 (by omega)).sub (by omega)
  obtain ⟨i3, j3, _⟩ := (ti 3 (by omega)).sub (by omega)
  obtain ⟨i4, j4, _⟩ := (ti 4 (by omega)).sub (by omega)
  obtain ⟨i5, j5, _⟩ := (ti 5 (by omega)).sub (by omega)
  obtain ⟨i6, j6, _⟩ := (ti 6 (by omega)).sub (by omega)
  obtain ⟨i7, j7, _⟩ := (ti 7 (by omega)).sub (by omega)
  obtain ⟨i8, j8, _⟩ := (ti 8 (by omega)).sub (by omega)
  obtain ⟨i9, j9, _⟩ := (ti 9 (by omega)).sub (by omega)
  obtain ⟨i10, j10, _⟩ := (ti 10 (by omega)).sub (by omega)
  obtain ⟨i11, j11, _⟩ := (ti 11 (by omega)).sub (by omega)
  obtain ⟨i12, j12, _⟩ := (ti 12 (by omega)).sub (by omega)
  obtain ⟨i13, j13, _⟩ := (ti 13 (by omega)).sub (by omega)
  obtain ⟨v0, u0, _⟩ := (int_field (hg 0 _ _ rfl)).sub (by omega)
  obtain ⟨v1, u1, _⟩ := (int_field (hg 1 _ _ rfl)).sub (by omega)
  obtain ⟨v2, u2, _⟩ := (int_field (hg 2 _ _ rfl)).sub (by omega)
  obtain ⟨v3, u3, _⟩ := (int_field (hg 3 _ _ rfl)).sub (by omega)
  obtain ⟨v4, u4, _⟩ := (int_field (hg 4 _ _ rfl)).sub (by omega)
  refine ⟨⟨k0, k1, k2, s, ⟨i0, i1, i2, ⟨⟨i3, i4, i5⟩, i6, ⟨i7, i8, i9⟩, i10, ⟨i11, i12, i13⟩⟩⟩, (v0, v1, v2, v3, v4)⟩, ?_, ⟨hsz, b0, b1⟩⟩
  apply List.ext_getElem?
  intro k
  by_cases hk : k < 23
  · have : k = 0 ∨ k = 1 ∨ k = 2 ∨ k = 3 ∨ k = 4 ∨ k = 5 ∨ k = 6 ∨ k = 7 ∨ k = 8 ∨ k = 9 ∨ k = 10 ∨ k = 11 ∨ k = 12 ∨ k = 13 ∨ k = 14 ∨ k = 15 ∨ k = 16 ∨ k = 17 ∨ k = 18 ∨ k = 19 ∨ k = 20 ∨ k = 21 ∨ k = 22 := by omega
    rcases this with e | e | e | e | e | e | e | e | e | e | e | e | e | e | e | e | e | e | e | e | e | e | e <;> subst e <;> simp only [opC] <;> (first | (rw [e0]; rfl) | (rw [e1]; rfl) | (rw [e2]; rfl) | (rw [e3]; rfl) | (rw [j0]; rfl) | (rw [j1]; rfl) | (rw [j2]; rfl) | (rw [j3]; rfl) | (rw [j4]; rfl) | (rw [j5]; rfl) | (rw [j6]; rfl) | (rw [j7]; rfl) | (rw [j8]; rfl) | (rw [j9]; rfl) | (rw [j10]; rfl) | (rw [j11]; rfl) | (rw [j12]; rfl) | (rw [j13]; rfl) | (rw [u0]; rfl) | (rw [u1]; rfl) | (rw [u2]; rfl) | (rw [u3]; rfl) | (rw [u4]; rfl))
  · rw [List.getElem?_eq_none (by omega), List.getElem?_eq_none (by rw [opC_length]; omega)]
end
end Go.Proofs.YtcboiapggnmpfaaGreat
