/- Walks: spotterref: the cutter's reading. -/
import Derived.Test.YtcboiapggnmpfaaGreatQa
import Derived.Test.YtcboiapggnmpfaaGreatQb
import Derived.Test.YtcboiapggnmpfaaGreatQc
namespace Go.Proofs.YtcboiapggnmpfaaGreat
open Go.RowKit
set_option linter.unusedSimpArgs false
set_option linter.unusedVariables false

/-- Where a cutter lies: its block, its bytes, their places, its tree. -/
structure CuP where
  C : Nat
  gs : Nat
  cs : Nat
  ga : Nat
  ca : Nat
  T : Nat
/-- A cutter over the bytes L. -/
structure Cu (w : World) (P : CuP) (L : List Tok) : Prop where
  c0 : w.cell? ⟨P.C, 0, none⟩ = some (.slice (some ⟨P.gs, 0, none⟩) L.length P.cs)
  c1 : w.cell? ⟨P.C, 1, none⟩ = some (.slice (some ⟨P.ga, 0, none⟩) L.length P.ca)
  c2 : w.cell? ⟨P.C, 2, none⟩ = some (.pointer (some ⟨P.T, 0, none⟩))
  bs : ∀ (k : Nat) (x : Tok), L[k]? = some x → w.cell? ⟨P.gs, k, none⟩ = some (.int .u8 x.1)
  pl : ∀ (k : Nat) (x : Tok), L[k]? = some x → w.cell? ⟨P.ga, k, none⟩ = some (.int .i64 x.2)
  rg : ∀ x ∈ L, 0 ≤ x.1 ∧ x.1 ≤ 255
  len : L.length ≤ 1000
  ltC : P.C < w.heap.size
  lts : P.gs < w.heap.size
  lta : P.ga < w.heap.size
theorem Cu.kp {S : Nat → Prop} {w w' : World} {P : CuP} {L : List Tok} (h : Cu w P L) (k : Kp S w w') (h1 : ¬ S P.C) (h2 : ¬ S P.gs) (h3 : ¬ S P.ga) : Cu w' P L :=
  ⟨(k.cell (p := ⟨P.C, 0, none⟩) h.ltC h1).trans h.c0, (k.cell (p := ⟨P.C, 1, none⟩) h.ltC h1).trans h.c1, (k.cell (p := ⟨P.C, 2, none⟩) h.ltC h1).trans h.c2,
   fun j x hx => (k.cell (p := ⟨P.gs, j, none⟩) h.lts h2).trans (h.bs j x hx), fun j x hx => (k.cell (p := ⟨P.ga, j, none⟩) h.lta h3).trans (h.pl j x hx), h.rg, h.len,
   Nat.lt_of_lt_of_le h.ltC k.size, Nat.lt_of_lt_of_le h.lts k.size, Nat.lt_of_lt_of_le h.lta k.size⟩
theorem Cu.nw {w w' : World} {P : CuP} {L : List Tok} (h : Cu w P L) (k : Nw w w') : Cu w' P L := h.kp k (fun h => h) (fun h => h) (fun h => h)
/-- The bytes u stand in L from lo on. -/
def Sub (L : List Tok) (lo : Nat) (u : List Tok) : Prop := ∀ (k : Nat) (x : Tok), u[k]? = some x → L[lo + k]? = some x
theorem Sub.left {L : List Tok} {lo : Nat} {u v : List Tok} (h : Sub L lo (u ++ v)) : Sub L lo u := fun k x hk => h k x (by rw [List.getElem?_append_left (List.getElem?_eq_some_iff.1 hk).1]; exact hk)
theorem Sub.right {L : List Tok} {lo m : Nat} {u v : List Tok} (h : Sub L lo (u ++ v)) (hm : m = lo + u.length) : Sub L m v := fun k x hk => by
  have := h (u.length + k) x (by rw [List.getElem?_append_right (by omega)]; have : u.length + k - u.length = k := by omega
                                 rw [this]; exact hk)
  rw [hm, Nat.add_assoc]; exact this
theorem Sub.tail {L : List Tok} {lo : Nat} {c : Tok} {v : List Tok} (h : Sub L lo (c :: v)) : Sub L (lo + 1) v := Sub.right (u := [c]) h rfl
theorem Sub.head {L : List Tok} {lo : Nat} {c : Tok} {v : List Tok} (h : Sub L lo (c :: v)) : L[lo]? = some c := h 0 c rfl
theorem Sub.le {L : List Tok} {lo : Nat} {u : List Tok} (h : Sub L lo u) (hu : 0 < u.length) : lo + u.length ≤ L.length := by
  have := h (u.length - 1) (u[u.length - 1]) (by simp)
  have := (List.getElem?_eq_some_iff.1 this).1
  omega
theorem numV_snoc (acc : Int) (u : List Tok) (d : Tok) : numV acc (u ++ [d]) = 10 * numV acc u + (d.1 - 48) := by simp [numV]
theorem take_snoc {α : Type} {u : List α} {k : Nat} {x : α} (h : u[k]? = some x) : u.take (k + 1) = u.take k ++ [x] := by
  rw [List.take_add_one, h]; rfl
theorem numV_bound {u : List Tok} (h : ∀ d ∈ u, isDigitB d.1 = true) : ∀ k, k ≤ u.length → 0 ≤ numV 0 (u.take k) ∧ numV 0 (u.take k) < 10 ^ k := by
  intro k
  induction k with
  | zero => intro _; simp [numV]
  | succ k ih =>
    intro hk
    obtain ⟨h1, h2⟩ := ih (by omega)
    have hx : u[k]? = some (u[k]'(by omega)) := by simp
    rw [take_snoc hx, numV_snoc]
    have hd := (isDigit_iff _).1 (h u[k] (by simp))
    have : (10 : Int) ^ (k + 1) = 10 * 10 ^ k := by rw [Int.pow_succ]; omega
    omega
theorem pow_le18 {k : Nat} (h : k ≤ 18) : (10 : Int) ^ k ≤ 1000000000000000000 := by
  have : (10 : Nat) ^ k ≤ 10 ^ 18 := Nat.pow_le_pow_right (by omega) h
  have h2 : ((10 ^ k : Nat) : Int) ≤ ((10 ^ 18 : Nat) : Int) := by exact_mod_cast this
  simpa using h2
set_option maxHeartbeats 1000000 in
theorem value_any (P : CuP) (L : List Tok) (lo hi : Nat) (u : List Tok) (w : World) (h : Cu w P L) (hd : ∀ d ∈ u, isDigitB d.1 = true) (hu : u.length ≤ 18) (hS : Sub L lo u) (hhi : hi = lo + u.length) (hlo : lo ≤ 1000) :
    Calls Tryz.prog 142 #[.pointer (some ⟨P.C, 0, none⟩), .int .i64 lo, .int .i64 hi] w fun e w' => e = .returned (.int .i64 (numV 0 u)) ∧ w' = w := by
  have H : Hid (Cu w P L) := h
  have c0 := h.c0
  have hlen := h.len
  clear h
  obtain ⟨C, gs, cs, ga, ca, T⟩ := P
  simp only at c0
  go_enter Tryz.func142, Tryz.ntmps142
  go_wp2
  go_loopg [7, 8] u.length (fun m v7 v8 wr => ∃ k : Nat, v7 = .int .i64 (numV 0 (u.take k)) ∧ v8 = .int .i64 ((lo + k : Nat) : Int) ∧ m = u.length - k ∧ k ≤ u.length ∧ wr = w)
  case atStart => exact ⟨0, by simp [numV], by simp, rfl, by omega, rfl⟩
  case round =>
    obtain ⟨k, rfl, rfl, hm, hk, rfl⟩ := hrel
    by_cases hk' : k < u.length
    · obtain ⟨x, hx⟩ : ∃ x, u[k]? = some x := ⟨u[k], by simp [hk']⟩
      have hLx := hS k x hx
      have hlt := (List.getElem?_eq_some_iff.1 hLx).1
      have cb := H.out.bs (lo + k) x hLx
      have hdx := (isDigit_iff _).1 (hd x (List.mem_of_getElem? hx))
      obtain ⟨n0, n1⟩ := numV_bound hd k (by omega)
      have n2 := pow_le18 (k := k) (by omega)
      have e1 : Hid (numV 0 (u.take (k + 1)) = 10 * numV 0 (u.take k) + (x.1 - 48)) := by
        show _ = _
        rw [take_snoc hx, numV_snoc]
      have n3 : Hid (10 * numV 0 (u.take k) + (x.1 - 48) ≤ 9223372036854775807) := by
        obtain ⟨a, b⟩ := numV_bound hd (k + 1) (by omega)
        have := pow_le18 (k := k + 1) (by omega)
        show _ ≤ _
        rw [← e1.out]; omega
      generalize numV 0 (u.take k) = N at *
      have hN : N ≤ 922337203685477580 := by have := n3.out; omega
      have n4 : 10 * N + (x.1 - 48) ≤ 9223372036854775807 := n3.out
      simp only at cb
      clear hx hLx n1 n2
      go_wp2
      go_roundg (u.length - (k + 1))
      case measure => omega
      case rel => exact ⟨k + 1, by rw [e1.out], by push_cast; simp; omega, rfl, by omega, rfl⟩
    · go_wp2
      go_ret
      have e : k = u.length := by omega
      rw [e, List.take_length]
      exact ⟨rfl, rfl⟩
theorem sh_cons (n : Int) (c : Tok) (r : List Tok) : sh n (c :: r) = if n + brk c.1 = 0 then 1 else 1 + sh (n + brk c.1) r := rfl
theorem dropT {L : List Tok} {i : Nat} {x : Tok} (h : L[i]? = some x) : L.drop i = x :: L.drop (i + 1) := by
  obtain ⟨h1, h2⟩ := List.getElem?_eq_some_iff.1 h
  rw [List.drop_eq_getElem_cons h1, h2]
set_option maxHeartbeats 1000000 in
theorem shut_any (P : CuP) (L : List Tok) (i : Nat) (w : World) (h : Cu w P L) (hi : i ≤ L.length) :
    Calls Tryz.prog 188 #[.pointer (some ⟨P.C, 0, none⟩), .int .i64 i] w fun e w' => e = .returned (.int .i64 ((i + sh 0 (L.drop i) : Nat) : Int)) ∧ w' = w := by
  have H : Hid (Cu w P L) := h
  have c0 := h.c0
  have hlen := h.len
  clear h
  obtain ⟨C, gs, cs, ga, ca, T⟩ := P
  simp only at c0
  generalize hR : i + sh 0 (L.drop i) = R
  go_enter Tryz.func188, Tryz.ntmps188
  go_wp2
  go_loopg [1, 5] (L.length + 1 - i) (fun m v1 v5 wr => ∃ (k : Nat) (n : Int), v1 = .int .i64 k ∧ v5 = .int .i64 n ∧ m = L.length + 1 - k ∧ k ≤ L.length ∧ -(k : Int) ≤ n ∧ n ≤ k ∧ k + sh n (L.drop k) = R ∧ wr = w)
  case atStart => exact ⟨i, 0, rfl, rfl, rfl, hi, by omega, by omega, hR, rfl⟩
  case round =>
    obtain ⟨k, n, rfl, rfl, hm, hk, hn0, hn1, hsh, rfl⟩ := hrel
    by_cases hk' : k < L.length
    · obtain ⟨x, hx⟩ : ∃ x, L[k]? = some x := ⟨L[k], by simp [hk']⟩
      have cb := H.out.bs k x hx
      obtain ⟨r0, r1⟩ := H.out.rg x (List.mem_of_getElem? hx)
      rw [dropT hx, sh_cons] at hsh
      obtain ⟨c, p⟩ := x
      simp only at cb r0 r1 hsh
      have HS : Hid (k + (if n + brk c = 0 then 1 else 1 + sh (n + brk c) (L.drop (k + 1))) = R) := hsh
      clear hx hsh
      have hcase : (c = 40 ∨ c = 91 ∨ c = 123) ∨ (c = 41 ∨ c = 93 ∨ c = 125) ∨ ((c == 40) = false ∧ (c == 91) = false ∧ (c == 123) = false ∧ (c == 41) = false ∧ (c == 93) = false ∧ (c == 125) = false) := by
        simp; omega
      rcases hcase with hc | hc | ⟨q1, q2, q3, q4, q5, q6⟩
      · have hb : brk c = 1 := by simp [brk, hc]
        rw [hb] at HS
        rcases hc with rfl | rfl | rfl
        all_goals
          by_cases h0 : n + 1 = 0
          · have h0' : ((n + 1 : Int) == 0) = true := by simp [h0]
            have HR : Hid (R = k + 1) := by have := HS.out; rw [if_pos h0] at this; exact this.symm
            go_wp2
            go_ret
            exact ⟨by rw [HR.out]; simp, rfl⟩
          · have h0' : ((n + 1 : Int) == 0) = false := by simp [h0]
            have HR : Hid ((k + 1) + sh (n + 1) (L.drop (k + 1)) = R) := by have := HS.out; rw [if_neg h0] at this; show _ = _; omega
            go_wp2
            go_roundg (L.length + 1 - (k + 1))
            case measure => omega
            case rel => exact ⟨k + 1, n + 1, by simp, rfl, rfl, by omega, by omega, by omega, HR.out, rfl⟩
      · have hb : brk c = -1 := by simp [brk]; omega
        rw [hb] at HS
        rcases hc with rfl | rfl | rfl
        all_goals
          by_cases h0 : n + -1 = 0
          · have h0' : ((n - 1 : Int) == 0) = true := by simp; omega
            have HR : Hid (R = k + 1) := by have := HS.out; rw [if_pos h0] at this; exact this.symm
            go_wp2
            go_ret
            exact ⟨by rw [HR.out]; simp, rfl⟩
          · have h0' : ((n - 1 : Int) == 0) = false := by simp; omega
            have HR : Hid ((k + 1) + sh (n - 1) (L.drop (k + 1)) = R) := by have := HS.out; rw [if_neg h0] at this; show _ = _; rw [Int.sub_eq_add_neg]; omega
            go_wp2
            go_roundg (L.length + 1 - (k + 1))
            case measure => omega
            case rel => exact ⟨k + 1, n - 1, by simp, rfl, rfl, by omega, by omega, by omega, HR.out, rfl⟩
      · have hb : brk c = 0 := by simp at q1 q2 q3 q4 q5 q6; simp [brk, q1, q2, q3, q4, q5, q6]
        rw [hb] at HS
        by_cases h0 : n + 0 = 0
        · have h0' : ((n : Int) == 0) = true := by simp; omega
          have HR : Hid (R = k + 1) := by have := HS.out; rw [if_pos h0] at this; exact this.symm
          go_wp2
          go_ret
          exact ⟨by rw [HR.out]; simp, rfl⟩
        · have h0' : ((n : Int) == 0) = false := by simp; omega
          have HR : Hid ((k + 1) + sh n (L.drop (k + 1)) = R) := by have := HS.out; rw [if_neg h0, Int.add_zero] at this; show _ = _; omega
          go_wp2
          go_roundg (L.length + 1 - (k + 1))
          case measure => omega
          case rel => exact ⟨k + 1, n, by simp, rfl, rfl, by omega, by omega, by omega, HR.out, rfl⟩
    · have HR : R = k := by rw [← hsh, List.drop_eq_nil_of_le (by omega)]; simp [sh]
      go_wp2
      go_ret
      exact ⟨by rw [HR]; rfl, rfl⟩
end Go.Proofs.YtcboiapggnmpfaaGreat

namespace Go.Proofs.YtcboiapggnmpfaaGreat
open Go.RowKit
set_option linter.unusedSimpArgs false
set_option linter.unusedVariables false

def tmV (t : Tm) : Value := .agg #[.int .i64 t.of, .int .i64 t.field, .int .i64 t.num]
theorem isDigit_no {c : Int} (h : ¬ (48 ≤ c ∧ c ≤ 57)) : isDigitB c = false := by
  rw [Bool.eq_false_iff]; intro e; exact h ((isDigit_iff c).1 e)
set_option maxRecDepth 100000 in
set_option maxHeartbeats 1000000 in
theorem termC_num (P : CuP) (L : List Tok) (lo hi : Nat) (u : List Tok) (w : World) (h : Cu w P L) (hd : ∀ d ∈ u, isDigitB d.1 = true) (hu : u.length ≤ 18) (hu1 : 1 ≤ u.length) (hS : Sub L lo u) (hhi : hi = lo + u.length) :
    Calls Tryz.prog 252 #[.pointer (some ⟨P.C, 0, none⟩), .int .i64 lo, .int .i64 hi] w fun e w' => e = .returned (tmV ⟨0, 0, numV 0 u⟩) ∧ Nw w w' := by
  have hle := hS.le hu1
  obtain ⟨x, hx⟩ : ∃ x, u[0]? = some x := ⟨u[0], by simp [hu1]⟩
  have hLx := hS 0 x hx
  rw [Nat.add_zero] at hLx
  have hdx := hd x (List.mem_of_getElem? hx)
  have hb := (isDigit_iff _).1 hdx
  have H : Hid (Cu w P L) := h
  have c0 := h.c0
  have cb := h.bs lo x hLx
  have hl := h.ltC
  have hls := h.lts
  have hlen := h.len
  have hne : ¬ P.C = w.heap.size := by omega
  have hne' : ¬ w.heap.size = P.C := by omega
  have hne2 : ¬ P.gs = w.heap.size := by omega
  have HC : Hid (∀ ob, Cu (w.alloc ob) P L) := fun ob => H.out.nw ((Kp.refl _ _).alloc _)
  have HV : Hid (∀ w', Cu w' P L → Calls Tryz.prog 142 #[.pointer (some ⟨P.C, 0, none⟩), .int .i64 lo, .int .i64 hi] w' fun e w'' => e = .returned (.int .i64 (numV 0 u)) ∧ w'' = w') := fun w' h' => value_any P L lo hi u w' h' hd hu hS hhi (by omega)
  generalize numV 0 u = N at *
  have hlt : lo < L.length := by omega
  clear h hd hu hu1 hS hx hLx hhi hle
  go_enter Tryz.func252, Tryz.ntmps252
  go_wp2_with fail
  refine (isDigit_any x.1 _).mono ?_
  rw [hdx]
  rintro e w1 ⟨rfl, rfl⟩
  go_wp2_with fail
  refine (HV.out _ (HC.out _)).mono ?_
  rintro e w1 ⟨rfl, rfl⟩
  clear HV HC H hdx cb
  go_wp2
  refine bodyPost_ret (by simp [results, Tryz.results252, go_sem]; rfl) rfl ?_
  go_light
  exact ⟨rfl, (Kp.refl _ w).alloc _⟩
set_option maxRecDepth 100000 in
set_option maxHeartbeats 1000000 in
theorem termC_field (P : CuP) (L : List Tok) (lo : Nat) (c : Int) (p : Nat) (w : World) (h : Cu w P L) (hf : isFieldB c = true) (hS : L[lo]? = some (c, p)) :
    Calls Tryz.prog 252 #[.pointer (some ⟨P.C, 0, none⟩), .int .i64 lo, .int .i64 (lo + 1 : Nat)] w fun e w' => e = .returned (tmV ⟨1, fieldV c, 0⟩) ∧ Nw w w' := by
  have hlt := (List.getElem?_eq_some_iff.1 hS).1
  have hb := (isField_iff _).1 hf
  have hdx : isDigitB c = false := isDigit_no (by omega)
  have c0 := h.c0
  have cb := h.bs lo _ hS
  have hl := h.ltC
  have hls := h.lts
  have hlen := h.len
  have hne : ¬ P.C = w.heap.size := by omega
  have hne' : ¬ w.heap.size = P.C := by omega
  have hne2 : ¬ P.gs = w.heap.size := by omega
  clear h hf
  simp only at cb
  have hcase : c = 120 ∨ c = 121 ∨ c = 122 ∨ c = 116 := by omega
  clear hb
  rcases hcase with rfl | rfl | rfl | rfl
  all_goals
    go_enter Tryz.func252, Tryz.ntmps252
    go_wp2_with (first
      | (go_at_call 198; refine (isDigit_any _ _).mono ?_; rw [hdx]; rintro e w1 ⟨rfl, rfl⟩))
    refine bodyPost_ret (by simp [results, Tryz.results252, go_sem]; rfl) rfl ?_
    go_light
    exact ⟨by simp [tmV, fieldV], ((Kp.refl _ w).alloc _).alloc _⟩
set_option maxRecDepth 100000 in
set_option maxHeartbeats 1000000 in
theorem termC_name (P : CuP) (L : List Tok) (lo : Nat) (n c : Int) (p q : Nat) (w : World) (h : Cu w P L) (hn : isNameB n = true) (hf : isFieldB c = true) (hS : L[lo]? = some (n, p)) (hS2 : L[lo + 1]? = some (c, q)) :
    Calls Tryz.prog 252 #[.pointer (some ⟨P.C, 0, none⟩), .int .i64 lo, .int .i64 (lo + 2 : Nat)] w fun e w' => e = .returned (tmV ⟨2 + (n - 65), fieldV c, 0⟩) ∧ Nw w w' := by
  have hlt := (List.getElem?_eq_some_iff.1 hS2).1
  have hb := (isField_iff _).1 hf
  have hnb := (isName_iff _).1 hn
  have hdx : isDigitB n = false := isDigit_no (by omega)
  have c0 := h.c0
  have cb := h.bs lo _ hS
  have cb2 := h.bs (lo + 1) _ hS2
  have hl := h.ltC
  have hls := h.lts
  have hlen := h.len
  have hne : ¬ P.C = w.heap.size := by omega
  have hne' : ¬ w.heap.size = P.C := by omega
  have hne2 : ¬ P.gs = w.heap.size := by omega
  clear h hf hn
  simp only at cb cb2
  have hcase : c = 120 ∨ c = 121 ∨ c = 122 ∨ c = 116 := by omega
  clear hb
  rcases hcase with rfl | rfl | rfl | rfl
  all_goals
    go_enter Tryz.func252, Tryz.ntmps252
    go_wp2_with (first
      | (go_at_call 198; refine (isDigit_any _ _).mono ?_; rw [hdx]; rintro e w1 ⟨rfl, rfl⟩))
    refine bodyPost_ret (by simp [results, Tryz.results252, go_sem]; rfl) rfl ?_
    go_light
    exact ⟨by simp [tmV, fieldV], ((Kp.refl _ w).alloc _).alloc _⟩
theorem termC_any (P : CuP) (L : List Tok) (lo hi : Nat) (t : Tm) (u : List Tok) (w : World) (h : Cu w P L) (hy : yTm t u) (hS : Sub L lo u) (hhi : hi = lo + u.length) :
    Calls Tryz.prog 252 #[.pointer (some ⟨P.C, 0, none⟩), .int .i64 lo, .int .i64 hi] w fun e w' => e = .returned (tmV t) ∧ Nw w w' := by
  rcases hy with ⟨h1, h2, h3, rfl⟩ | ⟨c, p, rfl, h1, rfl⟩ | ⟨n, p, c, q, rfl, h1, h2, rfl⟩
  · exact termC_num P L lo hi u w h h3 h2 h1 hS hhi
  · subst hhi
    exact termC_field P L lo c p w h h1 hS.head
  · subst hhi
    exact termC_name P L lo n c p q w h h1 h2 hS.head hS.tail.head
end Go.Proofs.YtcboiapggnmpfaaGreat

namespace Go.Proofs.YtcboiapggnmpfaaGreat

theorem Sub.drop {L : List Tok} {lo : Nat} {u : List Tok} (h : Sub L lo u) : L.drop lo = u ++ L.drop (lo + u.length) := by
  induction u generalizing lo with
  | nil => simp
  | cons c r ih =>
    rw [dropT h.head, ih h.tail]
    simp [Nat.add_assoc, Nat.add_comm 1]
/-- No @. -/
def NoAt (u : List Tok) : Prop := ∀ c ∈ u, ¬ c.1 = 64
theorem NoAt.nil : NoAt [] := by intro c hc; cases hc
theorem NoAt.append {u v : List Tok} (h : NoAt u) (h2 : NoAt v) : NoAt (u ++ v) := by
  intro c hc
  rcases List.mem_append.1 hc with e | e
  · exact h c e
  · exact h2 c e
theorem NoAt.cons {c : Tok} {u : List Tok} (hc : ¬ c.1 = 64) (h : NoAt u) : NoAt (c :: u) := by
  intro d hd
  rcases List.mem_cons.1 hd with e | e
  · subst e; exact hc
  · exact h d e
theorem yTst_noAt {t : Tst} {u : List Tok} (h : yTst t u) : NoAt u := by
  intro c hc
  rcases yTst_chars h c hc with h | h | h
  · have := h.range; omega
  · rw [isRel_iff] at h; omega
  · rw [isArith_iff'] at h; omega
theorem yTsts_noAt : ∀ (ts : List Tst) (u : List Tok), yTsts ts u → NoAt u := by
  intro ts
  induction ts with
  | nil => intro u h; simp [yTsts] at h
  | cons t ts ih =>
    intro u h
    cases ts with
    | nil =>
      obtain ⟨a, p, ha, e⟩ := h
      subst e
      exact (yTst_noAt ha).append (NoAt.cons (by simp) NoAt.nil)
    | cons t2 ts =>
      obtain ⟨a, p, v, ha, e, hv⟩ := h
      subst e
      exact (yTst_noAt ha).append (NoAt.cons (by simp) (ih v hv))
theorem ySt_noAt {s : St} {u : List Tok} (h : ySt s u) : NoAt u := by
  obtain ⟨c, a, b, e, hc, _, ha, hb⟩ := h
  subst e
  rw [isKind_iff] at hc
  refine NoAt.cons (by simp; omega) (NoAt.append ?_ ?_)
  · rcases ha with ⟨_, e⟩ | ⟨d, p, hd, e, _⟩
    · subst e; exact NoAt.nil
    · subst e; rw [isName_iff] at hd; exact NoAt.cons (by simp; omega) NoAt.nil
  · rcases hb with ⟨_, e⟩ | ⟨p, v, e, h⟩
    · subst e; exact NoAt.nil
    · subst e; exact NoAt.cons (by simp) (yTsts_noAt _ _ h)
theorem yRepS_noAt {q : Rep} {u : List Tok} (h : yRepS q u) : NoAt u := by
  rcases h with ⟨_, e⟩ | ⟨p, e, _⟩ | ⟨p, e, _⟩ | ⟨p, e, _⟩ | ⟨a, b, p0, p1, p2, p3, e, ha, hb, _⟩
  · subst e; exact NoAt.nil
  · subst e; exact NoAt.cons (by simp) NoAt.nil
  · subst e; exact NoAt.cons (by simp) NoAt.nil
  · subst e; exact NoAt.cons (by simp) NoAt.nil
  · subst e
    rw [isDigit_iff] at ha hb
    exact NoAt.cons (by simp) (NoAt.cons (by simp; omega) (NoAt.cons (by simp; omega) (NoAt.cons (by simp) NoAt.nil)))
/-- A step's or a bracket's first byte. -/
def KH (c : Int) : Prop := c = 46 ∨ (97 ≤ c ∧ c ≤ 100) ∨ c = 40
section
variable {α : Type} {ya : α → List Tok → Prop}
def AtomB (ya : α → List Tok → Prop) : Prop := ∀ a u, ya a u → NoAt u ∧ ∃ c r, u = c :: r ∧ KH c.1
theorem yReps_noAt (H : AtomB ya) : ∀ (xs : List (α × Rep)) (u : List Tok), yReps ya xs u → NoAt u := by
  intro xs
  induction xs with
  | nil => intro u h; simp only [yReps] at h; subst h; exact NoAt.nil
  | cons x xs ih =>
    intro u h
    obtain ⟨v, r, e, ⟨v1, r1, e1, h1, h3⟩, h2⟩ := h
    subst e; subst e1
    exact ((H _ _ h1).1.append (yRepS_noAt h3)).append (ih r h2)
theorem yReps_head (H : AtomB ya) : ∀ (xs : List (α × Rep)) (u : List Tok), yReps ya xs u → (xs = [] ∧ u = []) ∨ ∃ c r, u = c :: r ∧ KH c.1 := by
  intro xs u h
  cases xs with
  | nil => simp only [yReps] at h; exact Or.inl ⟨rfl, h⟩
  | cons x xs =>
    obtain ⟨v, r, e, ⟨v1, r1, e1, h1, h3⟩, h2⟩ := h
    obtain ⟨_, c, r2, e2, hc⟩ := H _ _ h1
    subst e; subst e1; subst e2
    exact Or.inr ⟨c, _, rfl, hc⟩
theorem yAlts_noAt (H : AtomB ya) : ∀ (ss : List (SeqOf α)) (u : List Tok), yAlts ya ss u → NoAt u := by
  intro ss
  induction ss with
  | nil => intro u h; simp only [yAlts] at h; subst h; exact NoAt.nil
  | cons s ss ih =>
    intro u h
    obtain ⟨p, v, r, e, h1, h2⟩ := h
    subst e
    exact NoAt.cons (by simp) ((yReps_noAt H _ _ h1).append (ih r h2))
theorem yAlt_noAt (H : AtomB ya) {t : AltOf α} {u : List Tok} (h : yAlt ya t u) : NoAt u := by
  obtain ⟨v, r, e, h1, h2⟩ := h
  subst e
  exact (yReps_noAt H _ _ h1).append (yAlts_noAt H _ _ h2)
end
theorem ySt_head {s : St} {u : List Tok} (h : ySt s u) : ∃ c r, u = c :: r ∧ KH c.1 := by
  obtain ⟨c, a, b, e, hc, _, ha, hb⟩ := h
  rw [isKind_iff] at hc
  exact ⟨_, _, e, by unfold KH; simp; omega⟩
theorem atomB : ∀ n : Nat, AtomB (yAtom n) := by
  intro n
  induction n with
  | zero => intro a u h; exact ⟨ySt_noAt h, ySt_head h⟩
  | succ n ih =>
    intro a u h
    cases a with
    | inl s => exact ⟨ySt_noAt h, ySt_head h⟩
    | inr t =>
      obtain ⟨p, v, q, e, h⟩ := h
      subst e
      exact ⟨NoAt.cons (by simp) ((yAlt_noAt ih h).append (NoAt.cons (by simp) NoAt.nil)), _, _, rfl, Or.inr (Or.inr rfl)⟩
end Go.Proofs.YtcboiapggnmpfaaGreat
