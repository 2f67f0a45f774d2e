/- Walks: spotterref: the cutter's tests. -/
import Derived.Test.YtcboiapggnmpfaaGreatQg
import Derived.Deep.DeepCutAuto
import Derived.Deep.LoopGhost
import Derived.Deep.MidRow
namespace Go.Proofs.YtcboiapggnmpfaaGreat
open Go.RowKit
set_option linter.unusedSimpArgs false
set_option linter.unusedVariables false

theorem isRel_no {c : Int} (h : ¬ (c = 60 ∨ c = 62 ∨ c = 61 ∨ c = 35)) : isRelB c = false := by
  rw [Bool.eq_false_iff]; intro e; exact h ((isRel_iff c).1 e)
def tsV (t : Tst) : Array Value := #[.int .i64 t.left.of, .int .i64 t.left.field, .int .i64 t.left.num, .int .i64 t.rel, .int .i64 t.right.of, .int .i64 t.right.field, .int .i64 t.right.num, .int .i64 t.arith, .int .i64 t.more.of, .int .i64 t.more.field, .int .i64 t.more.num]
/-- A test's first two blocks, the second of which bears its relation and its arithmetic. -/
def tW (w : World) (r a : Int) : World := (w.alloc (.cells #[.int .i64 0, .int .i64 0, .int .i64 0, .int .i64 0, .int .i64 0, .int .i64 0, .int .i64 0, .int .i64 0, .int .i64 0, .int .i64 0, .int .i64 0] 38)).alloc (.cells #[.int .i64 0, .int .i64 0, .int .i64 0, .int .i64 r, .int .i64 0, .int .i64 0, .int .i64 0, .int .i64 a, .int .i64 0, .int .i64 0, .int .i64 0] 38)
theorem nw_tW (w : World) (r a : Int) : Nw w (tW w r a) := ((Kp.refl _ w).alloc _).alloc _
theorem isArith_no {c : Int} (h : TmC c) : (c == 43) = false ∧ (c == 45) = false ∧ (c == 42) = false := by
  have := h.range
  simp; omega
/-- The bytes behind the relation: a term, or two with a sign between. -/
def Tail (b : List Tok) (av : Int) (rest : List Tok) (e : Nat) : Prop :=
  (∀ c ∈ b, TmC c.1) ∧ ((rest = b ∧ av = 0 ∧ e = b.length) ∨ ∃ d q m, isArithB d = true ∧ (∀ c ∈ m, TmC c.1) ∧ rest = b ++ (d, q) :: m ∧ av = arithV d ∧ e = b.length)
/-- What the second loop stands at: k bytes of rest are passed. -/
def Lp (w : World) (rv av : Int) (b rest : List Tok) (st hi k : Nat) (v9 : Value) (wr : World) : Prop :=
  (k ≤ b.length ∧ v9 = .int .i64 hi ∧ wr = tW w rv 0) ∨ (b.length < k ∧ v9 = .int .i64 ((st + b.length : Nat) : Int) ∧ wr = tW w rv av)
theorem Tryz.row38 : (Tryz.prog.underlying 38).map TypeDesc.isRow = some true := by kernel_rfl
theorem Tryz.size38 : (Tryz.prog.info? 38).map (·.size) = some 11 := by kernel_rfl
def c11 (a0 a1 a2 a3 a4 a5 a6 a7 a8 a9 a10 : Int) : List Value := [.int .i64 a0, .int .i64 a1, .int .i64 a2, .int .i64 a3, .int .i64 a4, .int .i64 a5, .int .i64 a6, .int .i64 a7, .int .i64 a8, .int .i64 a9, .int .i64 a10]
theorem c11_length (a0 a1 a2 a3 a4 a5 a6 a7 a8 a9 a10 : Int) : (c11 a0 a1 a2 a3 a4 a5 a6 a7 a8 a9 a10).length = 11 := by simp [c11]
theorem c11_size (a0 a1 a2 a3 a4 a5 a6 a7 a8 a9 a10 : Int) : (Tryz.prog.info? 38).map (·.size) = some (c11 a0 a1 a2 a3 a4 a5 a6 a7 a8 a9 a10).length := by rw [c11_length]; exact Tryz.size38
theorem c11_one (a0 a1 a2 a3 a4 a5 a6 a7 a8 a9 a10 : Int) : ∀ v ∈ c11 a0 a1 a2 a3 a4 a5 a6 a7 a8 a9 a10, v.oneCell' = true := by
  intro v hv
  simp only [c11, List.mem_cons, List.not_mem_nil, or_false] at hv
  rcases hv with h | h | h | h | h | h | h | h | h | h | h <;> subst h <;> rfl
theorem range11 {W : World} {B : Nat} {a0 a1 a2 a3 a4 a5 a6 a7 a8 a9 a10 : Int} (h0 : W.cell? ⟨B, 0, none⟩ = some (.int .i64 a0)) (h1 : W.cell? ⟨B, 1, none⟩ = some (.int .i64 a1)) (h2 : W.cell? ⟨B, 2, none⟩ = some (.int .i64 a2)) (h3 : W.cell? ⟨B, 3, none⟩ = some (.int .i64 a3)) (h4 : W.cell? ⟨B, 4, none⟩ = some (.int .i64 a4)) (h5 : W.cell? ⟨B, 5, none⟩ = some (.int .i64 a5)) (h6 : W.cell? ⟨B, 6, none⟩ = some (.int .i64 a6)) (h7 : W.cell? ⟨B, 7, none⟩ = some (.int .i64 a7)) (h8 : W.cell? ⟨B, 8, none⟩ = some (.int .i64 a8)) (h9 : W.cell? ⟨B, 9, none⟩ = some (.int .i64 a9)) (h10 : W.cell? ⟨B, 10, none⟩ = some (.int .i64 a10)) : W.rangeAt B 0 (c11 a0 a1 a2 a3 a4 a5 a6 a7 a8 a9 a10) := by
  intro j v hv
  rw [Nat.zero_add]
  have hj : j < 11 := by have := (List.getElem?_eq_some_iff.1 hv).1; rwa [c11_length] at this
  have : j = 0 ∨ j = 1 ∨ j = 2 ∨ j = 3 ∨ j = 4 ∨ j = 5 ∨ j = 6 ∨ j = 7 ∨ j = 8 ∨ j = 9 ∨ j = 10 := by omega
  rcases this with e | e | e | e | e | e | e | e | e | e | e <;> subst e <;> (simp [c11] at hv; rw [← hv]; assumption)
theorem Kp.setCells' {S : Nat → Prop} {a : World} {g : Nat} (hg : a.heap.size ≤ g ∨ S g) : ∀ (vs : List Value) (w : World) (o : Nat), Kp S a w → Kp S a (w.setCells g o vs) := by
  intro vs
  induction vs with
  | nil => intro w o h; exact h
  | cons v r ih => intro w o h; exact ih _ _ (h.setCell (p := ⟨g, o, none⟩) hg v)
theorem results_cell {fn : Func} {a : Tmp} {t : TypeId} (h : fn.results = #[.cell a t]) (tmps : Array Value) (P : Program) (w : World) (b : Addr) (hp : tmps.getD a undef = .pointer (some b)) (v : Value) (hl : (loadVar t b).run P w = .ok v w) : (results fn tmps).run P w = .ok v w := by
  have hp' : tmps[a]?.getD undef = .pointer (some b) := by simpa using hp
  simp [results, h, hp', asAddr, hl]
theorem nw_setCells {w W : World} (g : Nat) (hg : w.heap.size ≤ g) (h : Nw w W) (o : Nat) (vs : List Value) : Nw w (W.setCells g o vs) := Kp.setCells' (Or.inl hg) vs W o h
set_option maxRecDepth 100000 in
set_option maxHeartbeats 2000000 in
theorem testC_60 (P : CuP) (L : List Tok) (lo hi : Nat) (a b : List Tok) (p : Nat) (rest : List Tok) (av : Int) (ee : Nat) (tl tr tm : Tm) (w : World) (h : Cu w P L) (ha : ∀ c ∈ a, TmC c.1) (hS : Sub L lo (a ++ ((60 : Int), p) :: rest)) (hhi : hi = lo + a.length + 1 + rest.length)
    (hT : Tail b av rest ee)
    (h1 : ∀ w', Cu w' P L → Calls Tryz.prog 252 #[.pointer (some ⟨P.C, 0, none⟩), .int .i64 lo, .int .i64 ((lo + a.length : Nat) : Int)] w' fun e w'' => e = .returned (tmV tl) ∧ Nw w' w'')
    (h2 : ∀ w', Cu w' P L → Calls Tryz.prog 252 #[.pointer (some ⟨P.C, 0, none⟩), .int .i64 ((lo + a.length + 1 : Nat) : Int), .int .i64 ((lo + a.length + 1 + ee : Nat) : Int)] w' fun e w'' => e = .returned (tmV tr) ∧ Nw w' w'')
    (h3 : lo + a.length + 1 + ee < hi → ∀ w', Cu w' P L → Calls Tryz.prog 252 #[.pointer (some ⟨P.C, 0, none⟩), .int .i64 ((lo + a.length + 1 + ee + 1 : Nat) : Int), .int .i64 hi] w' fun e w'' => e = .returned (tmV tm) ∧ Nw w' w'')
    (h4 : lo + a.length + 1 + ee = hi → tm = tm0) :
    Calls Tryz.prog 244 #[.pointer (some ⟨P.C, 0, none⟩), .int .i64 lo, .int .i64 hi] w fun e w' => e = .returned (.agg (tsV ⟨tl, 0, tr, av, tm⟩)) ∧ Nw w w' := by
  have H : Hid (Cu w P L) := h
  have hlen := h.len
  have hle := hS.le (by simp; omega)
  simp only [List.length_append, List.length_cons] at hle
  have HS : Hid (Sub L lo (a ++ ((60 : Int), p) :: rest)) := hS
  have hLr : L[lo + a.length]? = some (60, p) := (hS.right rfl).head
  have HS2 : Hid (Sub L (lo + a.length + 1) rest) := (hS.right rfl).tail
  have HC : Hid (∀ x y, Cu (tW w x y) P L) := fun x y => H.out.nw (nw_tW w x y)
  have hrl : ee ≤ rest.length := by
    rcases hT.2 with ⟨e1, _, e2⟩ | ⟨d, q, m, _, _, e1, _, e2⟩ <;> rw [e1, e2] <;> simp
  have HH : Hid (hi = lo + a.length + 1 + rest.length) := hhi
  have hhl : hi ≤ 1000 := by omega
  have hhl3 : hi ≤ L.length := by omega
  have hlL : lo + a.length < L.length := by omega
  have hhl2 : lo + a.length < hi := by omega
  clear hS h hhi hle
  obtain ⟨C, gs, cs, ga, ca, T⟩ := P
  go_enter Tryz.func244, Tryz.ntmps244
  go_wp2
  go_loopg [8] (a.length + 1) (fun m v8 wr => ∃ k : Nat, v8 = .int .i64 ((lo + k : Nat) : Int) ∧ m = a.length + 1 - k ∧ k ≤ a.length ∧ wr = tW w 0 0)
  case atStart => exact ⟨0, by simp, by omega, by omega, rfl⟩
  case round =>
    obtain ⟨k, rfl, hm, hk, rfl⟩ := hrel
    have c0 := (HC.out 0 0).c0
    simp only at c0
    by_cases hk' : k < a.length
    · obtain ⟨x, hx⟩ : ∃ x, a[k]? = some x := ⟨a[k], by simp [hk']⟩
      have hLx : L[lo + k]? = some x := HS.out k x (by rw [List.getElem?_append_left hk']; exact hx)
      have cb := (HC.out 0 0).bs (lo + k) x hLx
      obtain ⟨r0, r1⟩ := H.out.rg x (List.mem_of_getElem? hLx)
      have hxr : isRelB x.1 = false := isRel_no (by have := (ha x (List.mem_of_getElem? hx)).range; omega)
      simp only at cb
      clear hx hLx
      generalize hW : tW w 0 0 = W at *
      have HW : Hid (tW w 0 0 = W) := hW
      clear hW
      go_wp2_with (go_at_call 229; refine (isRel_any x.1 _).mono ?_; rw [hxr]; rintro e w1 ⟨rfl, rfl⟩)
      go_roundg (a.length + 1 - (k + 1))
      case measure => omega
      case rel => exact ⟨k + 1, by push_cast; simp; omega, rfl, by omega, rfl⟩
    · have ek : k = a.length := by omega
      subst ek
      have cb := (HC.out 0 0).bs _ _ hLr
      simp only at cb
      unfold tW at c0 cb ⊢
      go_wp2_with (go_at_call 229; refine (isRel_any _ _).mono ?_; rw [show isRelB 60 = true from rfl]; rintro e w1 ⟨rfl, rfl⟩)
      go_loopg [9, 10] (rest.length + 1) (fun m v9 v10 wr => ∃ k : Nat, v10 = .int .i64 ((lo + a.length + 1 + k : Nat) : Int) ∧ m = rest.length + 1 - k ∧ k ≤ rest.length ∧ Lp w 0 av b rest (lo + a.length + 1) hi k v9 wr)
      case atStart => exact ⟨0, by push_cast; simp, by omega, by omega, Or.inl ⟨by omega, rfl, rfl⟩⟩
      case round =>
        obtain ⟨k, rfl, hm2, hk2, hlp⟩ := hrel
        by_cases hk3 : k < rest.length
        · obtain ⟨x, hx⟩ : ∃ x, rest[k]? = some x := ⟨rest[k], by simp [hk3]⟩
          have hLx := HS2.out k x hx
          obtain ⟨r0, r1⟩ := H.out.rg x (List.mem_of_getElem? hLx)
          have hidx : lo + a.length + 1 + k < L.length := (List.getElem?_eq_some_iff.1 hLx).1
          have hih : lo + a.length + 1 + k < hi := by rw [HH.out]; omega
          by_cases hkb : k = b.length
          · subst hkb
            obtain ⟨d, q, m, hda, hmm, hre, hav, hee⟩ : ∃ d q m, isArithB d = true ∧ (∀ c ∈ m, TmC c.1) ∧ rest = b ++ (d, q) :: m ∧ av = arithV d ∧ ee = b.length := by
              rcases hT.2 with ⟨e1, _, _⟩ | hh
              · rw [e1] at hk3; omega
              · exact hh
            have hxd : x = (d, q) := by
              rw [hre, List.getElem?_append_right (by omega)] at hx
              simp at hx; exact hx.symm
            subst hxd
            obtain ⟨rfl, rfl⟩ : u9 = .int .i64 hi ∧ wr = tW w 0 0 := by
              rcases hlp with ⟨e1, e2, e3⟩ | ⟨e1, e2, e3⟩
              · exact ⟨e2, e3⟩
              · omega
            have d0 := (HC.out 0 0).c0
            have cb2 := (HC.out 0 0).bs _ _ hLx
            simp only at d0 cb2
            have hlp4 : Hid (∀ wr', wr' = tW w 0 av → Lp w 0 av b rest (lo + a.length + 1) hi (b.length + 1) (.int .i64 ((lo + a.length + 1 + b.length : Nat) : Int)) wr') := fun wr' e => Or.inr ⟨by omega, rfl, e⟩
            have HAV : Hid (av = arithV d) := hav
            have hd3 : d = 43 ∨ d = 45 ∨ d = 42 := (isArith_iff' d).1 hda
            clear hx hLx hlp c0 cb hre hav hee hda hmm
            unfold tW at d0 cb2 ⊢
            rcases hd3 with rfl | rfl | rfl
            all_goals
              go_wp2
              go_roundg (rest.length + 1 - (b.length + 1))
              case measure => omega
              case rel => exact ⟨b.length + 1, by push_cast; simp; omega, rfl, by omega, hlp4.out _ (by rw [HAV.out]; rfl)⟩
          · have hxt : TmC x.1 := by
              rcases hT.2 with ⟨e1, _, _⟩ | ⟨d, q, m, _, hmm, e1, _, _⟩
              · rw [e1] at hx; exact hT.1 x (List.mem_of_getElem? hx)
              · rw [e1] at hx
                by_cases hlt : k < b.length
                · rw [List.getElem?_append_left hlt] at hx; exact hT.1 x (List.mem_of_getElem? hx)
                · rw [List.getElem?_append_right (by omega)] at hx
                  have : k - b.length = (k - b.length - 1) + 1 := by omega
                  rw [this] at hx
                  simp at hx
                  exact hmm x (List.mem_of_getElem? hx)
            obtain ⟨q1, q2, q3⟩ := isArith_no hxt
            have hlp2 : ∃ ar, wr = tW w 0 ar ∧ (u9 = .int .i64 hi ∨ u9 = .int .i64 ((lo + a.length + 1 + b.length : Nat) : Int)) ∧ Lp w 0 av b rest (lo + a.length + 1) hi (k + 1) u9 wr := by
              rcases hlp with ⟨e1, e2, e3⟩ | ⟨e1, e2, e3⟩
              · exact ⟨0, e3, Or.inl e2, Or.inl ⟨by omega, e2, e3⟩⟩
              · exact ⟨av, e3, Or.inr e2, Or.inr ⟨by omega, e2, e3⟩⟩
            obtain ⟨ar, rfl, hu9, hlp3⟩ := hlp2
            have d0 := (HC.out 0 ar).c0
            have cb2 := (HC.out 0 ar).bs _ _ hLx
            simp only at d0 cb2
            have HLP : Hid (Lp w 0 av b rest (lo + a.length + 1) hi (k + 1) u9 (tW w 0 ar)) := hlp3
            clear hx hLx hlp hlp3 c0 cb
            generalize tW w 0 ar = W at *
            go_wp2
            go_roundg (rest.length + 1 - (k + 1))
            case measure => omega
            case rel => exact ⟨k + 1, by push_cast; simp; omega, rfl, by omega, HLP.out⟩
        · have hkr : k = rest.length := by omega
          have hcase : ∃ ar9, wr = tW w 0 av ∧ u9 = .int .i64 ((lo + a.length + 1 + ar9 : Nat) : Int) ∧ ar9 = ee := by
            rcases hT.2 with ⟨e1, e2, e3⟩ | ⟨d, q, m, _, _, e1, e2, e3⟩
            · rcases hlp with ⟨g1, g2, g3⟩ | ⟨g1, g2, g3⟩
              · refine ⟨ee, by rw [g3, e2], ?_, rfl⟩
                rw [g2, HH.out, e3, ← e1]
              · rw [hkr, e1] at g1; omega
            · rcases hlp with ⟨g1, g2, g3⟩ | ⟨g1, g2, g3⟩
              · exfalso; rw [hkr, e1, List.length_append, List.length_cons] at g1; omega
              · exact ⟨ee, g3, by rw [g2, e3], rfl⟩
          obtain ⟨ar9, rfl, rfl, rfl⟩ := hcase
          clear hlp hT c0 cb
          have e28 : lo + a.length + 1 + ar9 ≤ hi := by rw [HH.out]; omega
          have hend : ¬ lo + a.length + 1 + k < hi := by rw [HH.out]; omega
          have C0 : Hid (Cu (tW w 0 av) ⟨C, gs, cs, ga, ca, T⟩ L) := HC.out _ _
          unfold tW at C0 ⊢
          go_wp2_with fail
          refine (h1 _ C0.out).mono ?_
          obtain ⟨l0, l1, l2⟩ := tl
          obtain ⟨m0, m1, m2⟩ := tr
          obtain ⟨n0, n1, n2⟩ := tm
          unfold tmV at h2 h3 ⊢
          simp only at h2 h3 ⊢
          rintro e w1 ⟨rfl, k1⟩
          have K1 : Hid (Nw w w1) := (((Kp.refl _ w).alloc _).alloc _).trans k1
          obtain ⟨fA, zA⟩ := k1.sm (B := w.heap.size) (by simp; omega) (fun h => h)
          obtain ⟨fB, zB⟩ := k1.sm (B := w.heap.size + 1) (by simp) (fun h => h)
          have hs1 : w.heap.size + 1 < w1.heap.size := Nat.lt_of_lt_of_le (by simp) k1.size
          have C1 : Hid (Cu (((w1.setCell ⟨w.heap.size + 1, 0, none⟩ (.int .i64 l0)).setCell ⟨w.heap.size + 1, 1, none⟩ (.int .i64 l1)).setCell ⟨w.heap.size + 1, 2, none⟩ (.int .i64 l2)) ⟨C, gs, cs, ga, ca, T⟩ L) :=
            H.out.nw (((K1.out.setCell (p := ⟨w.heap.size + 1, 0, none⟩) (Or.inl (by simp)) _).setCell (p := ⟨w.heap.size + 1, 1, none⟩) (Or.inl (by simp)) _).setCell (p := ⟨w.heap.size + 1, 2, none⟩) (Or.inl (by simp)) _)
          clear k1 C0 h1
          go_wp2_with fail
          refine (h2 _ C1.out).mono ?_
          rintro e w2 ⟨rfl, k2⟩
          obtain ⟨gA, yA⟩ := k2.sm (B := w.heap.size) (by simp [World.setCell]; omega) (fun h => h)
          obtain ⟨gB, yB⟩ := k2.sm (B := w.heap.size + 1) (by simp [World.setCell]; omega) (fun h => h)
          have b0 : w2.cell? ⟨w.heap.size + 1, 0, none⟩ = some (.int .i64 l0) := by rw [gB]; simp [go_sem, fB]
          have b1 : w2.cell? ⟨w.heap.size + 1, 1, none⟩ = some (.int .i64 l1) := by rw [gB]; simp [go_sem, fB]
          have b2 : w2.cell? ⟨w.heap.size + 1, 2, none⟩ = some (.int .i64 l2) := by rw [gB]; simp [go_sem, fB]
          have b3 : w2.cell? ⟨w.heap.size + 1, 3, none⟩ = some (.int .i64 0) := by rw [gB]; simp [go_sem, fB]
          have b4 : w2.cell? ⟨w.heap.size + 1, 4, none⟩ = some (.int .i64 0) := by rw [gB]; simp [go_sem, fB]
          have b5 : w2.cell? ⟨w.heap.size + 1, 5, none⟩ = some (.int .i64 0) := by rw [gB]; simp [go_sem, fB]
          have b6 : w2.cell? ⟨w.heap.size + 1, 6, none⟩ = some (.int .i64 0) := by rw [gB]; simp [go_sem, fB]
          have b7 : w2.cell? ⟨w.heap.size + 1, 7, none⟩ = some (.int .i64 av) := by rw [gB]; simp [go_sem, fB]
          have b8 : w2.cell? ⟨w.heap.size + 1, 8, none⟩ = some (.int .i64 0) := by rw [gB]; simp [go_sem, fB]
          have b9 : w2.cell? ⟨w.heap.size + 1, 9, none⟩ = some (.int .i64 0) := by rw [gB]; simp [go_sem, fB]
          have b10 : w2.cell? ⟨w.heap.size + 1, 10, none⟩ = some (.int .i64 0) := by rw [gB]; simp [go_sem, fB]
          have zB2 : ∀ o, w2.frozen? ⟨w.heap.size + 1, o, none⟩ = false := by intro o; rw [yB]; simp [go_sem, zB]
          have fA2 : ∀ o, w2.cell? ⟨w.heap.size, o, none⟩ = (w.alloc (.cells #[.int .i64 0, .int .i64 0, .int .i64 0, .int .i64 0, .int .i64 0, .int .i64 0, .int .i64 0, .int .i64 0, .int .i64 0, .int .i64 0, .int .i64 0] 38)).cell? ⟨w.heap.size, o, none⟩ := by intro o; rw [gA]; simp [go_sem, fA]
          have zA2 : ∀ o, w2.frozen? ⟨w.heap.size, o, none⟩ = false := by intro o; rw [yA]; simp [go_sem, zA]
          have hs2 : w.heap.size + 1 < w2.heap.size := by have := k2.size; simp [World.setCell] at this; omega
          have K2 : Hid (Nw w w2) := (((K1.out.setCell (p := ⟨w.heap.size + 1, 0, none⟩) (Or.inl (by simp)) _).setCell (p := ⟨w.heap.size + 1, 1, none⟩) (Or.inl (by simp)) _).setCell (p := ⟨w.heap.size + 1, 2, none⟩) (Or.inl (by simp)) _).trans k2
          clear k2 C1 h2 fA fB zA zB gA gB yA yB
          by_cases hmore : lo + a.length + 1 + ar9 < hi
          · have C2 : Hid (Cu (((w2.setCell ⟨w.heap.size + 1, 4, none⟩ (.int .i64 m0)).setCell ⟨w.heap.size + 1, 5, none⟩ (.int .i64 m1)).setCell ⟨w.heap.size + 1, 6, none⟩ (.int .i64 m2)) ⟨C, gs, cs, ga, ca, T⟩ L) :=
              H.out.nw (((K2.out.setCell (p := ⟨w.heap.size + 1, 4, none⟩) (Or.inl (by simp)) _).setCell (p := ⟨w.heap.size + 1, 5, none⟩) (Or.inl (by simp)) _).setCell (p := ⟨w.heap.size + 1, 6, none⟩) (Or.inl (by simp)) _)
            go_wp2_with fail
            refine (h3 hmore _ C2.out).mono ?_
            rintro e w3 ⟨rfl, k3⟩
            obtain ⟨hA, yA⟩ := k3.sm (B := w.heap.size) (by simp [World.setCell]; omega) (fun h => h)
            obtain ⟨hB, yB⟩ := k3.sm (B := w.heap.size + 1) (by simp [World.setCell]; omega) (fun h => h)
            have d0 : w3.cell? ⟨w.heap.size + 1, 0, none⟩ = some (.int .i64 l0) := by rw [hB]; simp [go_sem, b0, b4, b5, b6]
            have d1 : w3.cell? ⟨w.heap.size + 1, 1, none⟩ = some (.int .i64 l1) := by rw [hB]; simp [go_sem, b1, b4, b5, b6]
            have d2 : w3.cell? ⟨w.heap.size + 1, 2, none⟩ = some (.int .i64 l2) := by rw [hB]; simp [go_sem, b2, b4, b5, b6]
            have d3 : w3.cell? ⟨w.heap.size + 1, 3, none⟩ = some (.int .i64 0) := by rw [hB]; simp [go_sem, b3, b4, b5, b6]
            have d4 : w3.cell? ⟨w.heap.size + 1, 4, none⟩ = some (.int .i64 m0) := by rw [hB]; simp [go_sem, b4, b4, b5, b6]
            have d5 : w3.cell? ⟨w.heap.size + 1, 5, none⟩ = some (.int .i64 m1) := by rw [hB]; simp [go_sem, b5, b4, b5, b6]
            have d6 : w3.cell? ⟨w.heap.size + 1, 6, none⟩ = some (.int .i64 m2) := by rw [hB]; simp [go_sem, b6, b4, b5, b6]
            have d7 : w3.cell? ⟨w.heap.size + 1, 7, none⟩ = some (.int .i64 av) := by rw [hB]; simp [go_sem, b7, b4, b5, b6]
            have d8 : w3.cell? ⟨w.heap.size + 1, 8, none⟩ = some (.int .i64 0) := by rw [hB]; simp [go_sem, b8, b4, b5, b6]
            have d9 : w3.cell? ⟨w.heap.size + 1, 9, none⟩ = some (.int .i64 0) := by rw [hB]; simp [go_sem, b9, b4, b5, b6]
            have d10 : w3.cell? ⟨w.heap.size + 1, 10, none⟩ = some (.int .i64 0) := by rw [hB]; simp [go_sem, b10, b4, b5, b6]
            have zB3 : ∀ o, w3.frozen? ⟨w.heap.size + 1, o, none⟩ = false := by intro o; rw [yB]; simp [go_sem, zB2]
            have fA3 : ∀ o, w3.cell? ⟨w.heap.size, o, none⟩ = (w.alloc (.cells #[.int .i64 0, .int .i64 0, .int .i64 0, .int .i64 0, .int .i64 0, .int .i64 0, .int .i64 0, .int .i64 0, .int .i64 0, .int .i64 0, .int .i64 0] 38)).cell? ⟨w.heap.size, o, none⟩ := by intro o; rw [hA]; simp [go_sem, fA2]
            have zA3 : ∀ o, w3.frozen? ⟨w.heap.size, o, none⟩ = false := by intro o; rw [yA]; simp [go_sem, zA2]
            have hs3 : w.heap.size + 1 < w3.heap.size := by have := k3.size; simp [World.setCell] at this; omega
            have K3 : Hid (Nw w w3) := (((K2.out.setCell (p := ⟨w.heap.size + 1, 4, none⟩) (Or.inl (by simp)) _).setCell (p := ⟨w.heap.size + 1, 5, none⟩) (Or.inl (by simp)) _).setCell (p := ⟨w.heap.size + 1, 6, none⟩) (Or.inl (by simp)) _).trans k3
            clear k3 C2 h3 fA2 zA2 zB2 hA hB yA yB b0 b1 b2 b3 b4 b5 b6 b7 b8 b9 b10
            have HW : Hid ((((w3.setCell ⟨w.heap.size + 1, 8, none⟩ (.int .i64 n0)).setCell ⟨w.heap.size + 1, 9, none⟩ (.int .i64 n1)).setCell ⟨w.heap.size + 1, 10, none⟩ (.int .i64 n2)).rangeAt (w.heap.size + 1) 0 (c11 l0 l1 l2 0 m0 m1 m2 av n0 n1 n2)) := range11 (by simp [go_sem, *]) (by simp [go_sem, *]) (by simp [go_sem, *]) (by simp [go_sem, *]) (by simp [go_sem, *]) (by simp [go_sem, *]) (by simp [go_sem, *]) (by simp [go_sem, *]) (by simp [go_sem, *]) (by simp [go_sem, *]) (by simp [go_sem, *])
            have HTH : Hid ((((w3.setCell ⟨w.heap.size + 1, 8, none⟩ (.int .i64 n0)).setCell ⟨w.heap.size + 1, 9, none⟩ (.int .i64 n1)).setCell ⟨w.heap.size + 1, 10, none⟩ (.int .i64 n2)).there w.heap.size 0 (c11 l0 l1 l2 0 m0 m1 m2 av n0 n1 n2).toArray.size) := by
              intro j hj
              have hj' : j < 11 := by simpa [c11] using hj
              refine ⟨?_, by simp [go_sem, zA3]⟩
              rw [Nat.zero_add]
              simp [go_sem, fA3]
              omega
            obtain ⟨dd, hu, hd⟩ := Option.map_eq_some_iff.1 Tryz.row38
            have HU : Hid (Tryz.prog.underlying 38 = some dd) := hu
            have HD : Hid (dd.isRow = true) := hd
            clear hu hd
            go_wp2_with (first
              | (with_reducible (show Go.wpList _ _ _ ({ dst := _, op := Op.load 38 _, type := _, pos := _, after := _, guard := _ } :: _) _ _); refine wpList_load_mid rfl 38 _ rfl (w.heap.size + 1) 0 rfl (c11 l0 l1 l2 0 m0 m1 m2 av n0 n1 n2) dd HW.out HU.out HD.out (c11_size _ _ _ _ _ _ _ _ _ _ _) ?_)
              | (with_reducible (show Go.wpList _ _ _ ({ dst := _, op := Op.store 38 _ _, type := _, pos := _, after := _, guard := _ } :: _) _ _); refine wpList_store_mid rfl 38 _ _ rfl w.heap.size 0 (c11 l0 l1 l2 0 m0 m1 m2 av n0 n1 n2).toArray rfl rfl HTH.out (by simpa using c11_size _ _ _ _ _ _ _ _ _ _ _) (all_oneCell_toArray (c11_one _ _ _ _ _ _ _ _ _ _ _)) ?_)
              | fail)
            refine bodyPost_ret (v := .agg (c11 l0 l1 l2 0 m0 m1 m2 av n0 n1 n2).toArray) (results_cell Tryz.results244 _ _ _ ⟨w.heap.size, 0, none⟩ rfl _ (run_loadVar_mid _ w.heap.size 0 38 (c11 l0 l1 l2 0 m0 m1 m2 av n0 n1 n2) dd (by simpa using World.rangeAt_setCells_same (((w3.setCell ⟨w.heap.size + 1, 8, none⟩ (.int .i64 n0)).setCell ⟨w.heap.size + 1, 9, none⟩ (.int .i64 n1)).setCell ⟨w.heap.size + 1, 10, none⟩ (.int .i64 n2)) w.heap.size 0 (c11 l0 l1 l2 0 m0 m1 m2 av n0 n1 n2) (by simpa using HTH.out)) HU.out HD.out (c11_size _ _ _ _ _ _ _ _ _ _ _))) rfl ?_
            exact ⟨rfl, nw_setCells w.heap.size (Nat.le_refl _) (((K3.out.setCell (p := ⟨w.heap.size + 1, 8, none⟩) (Or.inl (by simp)) _).setCell (p := ⟨w.heap.size + 1, 9, none⟩) (Or.inl (by simp)) _).setCell (p := ⟨w.heap.size + 1, 10, none⟩) (Or.inl (by simp)) _) _ _⟩
          · obtain ⟨rfl, rfl, rfl⟩ : n0 = 0 ∧ n1 = 0 ∧ n2 = 0 := by
              have := h4 (by omega)
              simpa [tm0] using this
            have HW : Hid ((((w2.setCell ⟨w.heap.size + 1, 4, none⟩ (.int .i64 m0)).setCell ⟨w.heap.size + 1, 5, none⟩ (.int .i64 m1)).setCell ⟨w.heap.size + 1, 6, none⟩ (.int .i64 m2)).rangeAt (w.heap.size + 1) 0 (c11 l0 l1 l2 0 m0 m1 m2 av 0 0 0)) := range11 (by simp [go_sem, *]) (by simp [go_sem, *]) (by simp [go_sem, *]) (by simp [go_sem, *]) (by simp [go_sem, *]) (by simp [go_sem, *]) (by simp [go_sem, *]) (by simp [go_sem, *]) (by simp [go_sem, *]) (by simp [go_sem, *]) (by simp [go_sem, *])
            have HTH : Hid ((((w2.setCell ⟨w.heap.size + 1, 4, none⟩ (.int .i64 m0)).setCell ⟨w.heap.size + 1, 5, none⟩ (.int .i64 m1)).setCell ⟨w.heap.size + 1, 6, none⟩ (.int .i64 m2)).there w.heap.size 0 (c11 l0 l1 l2 0 m0 m1 m2 av 0 0 0).toArray.size) := by
              intro j hj
              have hj' : j < 11 := by simpa [c11] using hj
              refine ⟨?_, by simp [go_sem, zA2]⟩
              rw [Nat.zero_add]
              simp [go_sem, fA2]
              omega
            obtain ⟨dd, hu, hd⟩ := Option.map_eq_some_iff.1 Tryz.row38
            have HU : Hid (Tryz.prog.underlying 38 = some dd) := hu
            have HD : Hid (dd.isRow = true) := hd
            clear hu hd
            go_wp2_with (first
              | (with_reducible (show Go.wpList _ _ _ ({ dst := _, op := Op.load 38 _, type := _, pos := _, after := _, guard := _ } :: _) _ _); refine wpList_load_mid rfl 38 _ rfl (w.heap.size + 1) 0 rfl (c11 l0 l1 l2 0 m0 m1 m2 av 0 0 0) dd HW.out HU.out HD.out (c11_size _ _ _ _ _ _ _ _ _ _ _) ?_)
              | (with_reducible (show Go.wpList _ _ _ ({ dst := _, op := Op.store 38 _ _, type := _, pos := _, after := _, guard := _ } :: _) _ _); refine wpList_store_mid rfl 38 _ _ rfl w.heap.size 0 (c11 l0 l1 l2 0 m0 m1 m2 av 0 0 0).toArray rfl rfl HTH.out (by simpa using c11_size _ _ _ _ _ _ _ _ _ _ _) (all_oneCell_toArray (c11_one _ _ _ _ _ _ _ _ _ _ _)) ?_)
              | fail)
            refine bodyPost_ret (v := .agg (c11 l0 l1 l2 0 m0 m1 m2 av 0 0 0).toArray) (results_cell Tryz.results244 _ _ _ ⟨w.heap.size, 0, none⟩ rfl _ (run_loadVar_mid _ w.heap.size 0 38 (c11 l0 l1 l2 0 m0 m1 m2 av 0 0 0) dd (by simpa using World.rangeAt_setCells_same (((w2.setCell ⟨w.heap.size + 1, 4, none⟩ (.int .i64 m0)).setCell ⟨w.heap.size + 1, 5, none⟩ (.int .i64 m1)).setCell ⟨w.heap.size + 1, 6, none⟩ (.int .i64 m2)) w.heap.size 0 (c11 l0 l1 l2 0 m0 m1 m2 av 0 0 0) (by simpa using HTH.out)) HU.out HD.out (c11_size _ _ _ _ _ _ _ _ _ _ _))) rfl ?_
            exact ⟨rfl, nw_setCells w.heap.size (Nat.le_refl _) (((K2.out.setCell (p := ⟨w.heap.size + 1, 4, none⟩) (Or.inl (by simp)) _).setCell (p := ⟨w.heap.size + 1, 5, none⟩) (Or.inl (by simp)) _).setCell (p := ⟨w.heap.size + 1, 6, none⟩) (Or.inl (by simp)) _) _ _⟩
set_option maxRecDepth 100000 in
set_option maxHeartbeats 2000000 in
theorem testC_62 (P : CuP) (L : List Tok) (lo hi : Nat) (a b : List Tok) (p : Nat) (rest : List Tok) (av : Int) (ee : Nat) (tl tr tm : Tm) (w : World) (h : Cu w P L) (ha : ∀ c ∈ a, TmC c.1) (hS : Sub L lo (a ++ ((62 : Int), p) :: rest)) (hhi : hi = lo + a.length + 1 + rest.length)
    (hT : Tail b av rest ee)
    (h1 : ∀ w', Cu w' P L → Calls Tryz.prog 252 #[.pointer (some ⟨P.C, 0, none⟩), .int .i64 lo, .int .i64 ((lo + a.length : Nat) : Int)] w' fun e w'' => e = .returned (tmV tl) ∧ Nw w' w'')
    (h2 : ∀ w', Cu w' P L → Calls Tryz.prog 252 #[.pointer (some ⟨P.C, 0, none⟩), .int .i64 ((lo + a.length + 1 : Nat) : Int), .int .i64 ((lo + a.length + 1 + ee : Nat) : Int)] w' fun e w'' => e = .returned (tmV tr) ∧ Nw w' w'')
    (h3 : lo + a.length + 1 + ee < hi → ∀ w', Cu w' P L → Calls Tryz.prog 252 #[.pointer (some ⟨P.C, 0, none⟩), .int .i64 ((lo + a.length + 1 + ee + 1 : Nat) : Int), .int .i64 hi] w' fun e w'' => e = .returned (tmV tm) ∧ Nw w' w'')
    (h4 : lo + a.length + 1 + ee = hi → tm = tm0) :
    Calls Tryz.prog 244 #[.pointer (some ⟨P.C, 0, none⟩), .int .i64 lo, .int .i64 hi] w fun e w' => e = .returned (.agg (tsV ⟨tl, 1, tr, av, tm⟩)) ∧ Nw w w' := by
  have H : Hid (Cu w P L) := h
  have hlen := h.len
  have hle := hS.le (by simp; omega)
  simp only [List.length_append, List.length_cons] at hle
  have HS : Hid (Sub L lo (a ++ ((62 : Int), p) :: rest)) := hS
  have hLr : L[lo + a.length]? = some (62, p) := (hS.right rfl).head
  have HS2 : Hid (Sub L (lo + a.length + 1) rest) := (hS.right rfl).tail
  have HC : Hid (∀ x y, Cu (tW w x y) P L) := fun x y => H.out.nw (nw_tW w x y)
  have hrl : ee ≤ rest.length := by
    rcases hT.2 with ⟨e1, _, e2⟩ | ⟨d, q, m, _, _, e1, _, e2⟩ <;> rw [e1, e2] <;> simp
  have HH : Hid (hi = lo + a.length + 1 + rest.length) := hhi
  have hhl : hi ≤ 1000 := by omega
  have hhl3 : hi ≤ L.length := by omega
  have hlL : lo + a.length < L.length := by omega
  have hhl2 : lo + a.length < hi := by omega
  clear hS h hhi hle
  obtain ⟨C, gs, cs, ga, ca, T⟩ := P
  go_enter Tryz.func244, Tryz.ntmps244
  go_wp2
  go_loopg [8] (a.length + 1) (fun m v8 wr => ∃ k : Nat, v8 = .int .i64 ((lo + k : Nat) : Int) ∧ m = a.length + 1 - k ∧ k ≤ a.length ∧ wr = tW w 0 0)
  case atStart => exact ⟨0, by simp, by omega, by omega, rfl⟩
  case round =>
    obtain ⟨k, rfl, hm, hk, rfl⟩ := hrel
    have c0 := (HC.out 0 0).c0
    simp only at c0
    by_cases hk' : k < a.length
    · obtain ⟨x, hx⟩ : ∃ x, a[k]? = some x := ⟨a[k], by simp [hk']⟩
      have hLx : L[lo + k]? = some x := HS.out k x (by rw [List.getElem?_append_left hk']; exact hx)
      have cb := (HC.out 0 0).bs (lo + k) x hLx
      obtain ⟨r0, r1⟩ := H.out.rg x (List.mem_of_getElem? hLx)
      have hxr : isRelB x.1 = false := isRel_no (by have := (ha x (List.mem_of_getElem? hx)).range; omega)
      simp only at cb
      clear hx hLx
      generalize hW : tW w 0 0 = W at *
      have HW : Hid (tW w 0 0 = W) := hW
      clear hW
      go_wp2_with (go_at_call 229; refine (isRel_any x.1 _).mono ?_; rw [hxr]; rintro e w1 ⟨rfl, rfl⟩)
      go_roundg (a.length + 1 - (k + 1))
      case measure => omega
      case rel => exact ⟨k + 1, by push_cast; simp; omega, rfl, by omega, rfl⟩
    · have ek : k = a.length := by omega
      subst ek
      have cb := (HC.out 0 0).bs _ _ hLr
      simp only at cb
      unfold tW at c0 cb ⊢
      go_wp2_with (go_at_call 229; refine (isRel_any _ _).mono ?_; rw [show isRelB 62 = true from rfl]; rintro e w1 ⟨rfl, rfl⟩)
      go_loopg [9, 10] (rest.length + 1) (fun m v9 v10 wr => ∃ k : Nat, v10 = .int .i64 ((lo + a.length + 1 + k : Nat) : Int) ∧ m = rest.length + 1 - k ∧ k ≤ rest.length ∧ Lp w 1 av b rest (lo + a.length + 1) hi k v9 wr)
      case atStart => exact ⟨0, by push_cast; simp, by omega, by omega, Or.inl ⟨by omega, rfl, rfl⟩⟩
      case round =>
        obtain ⟨k, rfl, hm2, hk2, hlp⟩ := hrel
        by_cases hk3 : k < rest.length
        · obtain ⟨x, hx⟩ : ∃ x, rest[k]? = some x := ⟨rest[k], by simp [hk3]⟩
          have hLx := HS2.out k x hx
          obtain ⟨r0, r1⟩ := H.out.rg x (List.mem_of_getElem? hLx)
          have hidx : lo + a.length + 1 + k < L.length := (List.getElem?_eq_some_iff.1 hLx).1
          have hih : lo + a.length + 1 + k < hi := by rw [HH.out]; omega
          by_cases hkb : k = b.length
          · subst hkb
            obtain ⟨d, q, m, hda, hmm, hre, hav, hee⟩ : ∃ d q m, isArithB d = true ∧ (∀ c ∈ m, TmC c.1) ∧ rest = b ++ (d, q) :: m ∧ av = arithV d ∧ ee = b.length := by
              rcases hT.2 with ⟨e1, _, _⟩ | hh
              · rw [e1] at hk3; omega
              · exact hh
            have hxd : x = (d, q) := by
              rw [hre, List.getElem?_append_right (by omega)] at hx
              simp at hx; exact hx.symm
            subst hxd
            obtain ⟨rfl, rfl⟩ : u9 = .int .i64 hi ∧ wr = tW w 1 0 := by
              rcases hlp with ⟨e1, e2, e3⟩ | ⟨e1, e2, e3⟩
              · exact ⟨e2, e3⟩
              · omega
            have d0 := (HC.out 1 0).c0
            have cb2 := (HC.out 1 0).bs _ _ hLx
            simp only at d0 cb2
            have hlp4 : Hid (∀ wr', wr' = tW w 1 av → Lp w 1 av b rest (lo + a.length + 1) hi (b.length + 1) (.int .i64 ((lo + a.length + 1 + b.length : Nat) : Int)) wr') := fun wr' e => Or.inr ⟨by omega, rfl, e⟩
            have HAV : Hid (av = arithV d) := hav
            have hd3 : d = 43 ∨ d = 45 ∨ d = 42 := (isArith_iff' d).1 hda
            clear hx hLx hlp c0 cb hre hav hee hda hmm
            unfold tW at d0 cb2 ⊢
            rcases hd3 with rfl | rfl | rfl
            all_goals
              go_wp2
              go_roundg (rest.length + 1 - (b.length + 1))
              case measure => omega
              case rel => exact ⟨b.length + 1, by push_cast; simp; omega, rfl, by omega, hlp4.out _ (by rw [HAV.out]; rfl)⟩
          · have hxt : TmC x.1 := by
              rcases hT.2 with ⟨e1, _, _⟩ | ⟨d, q, m, _, hmm, e1, _, _⟩
              · rw [e1] at hx; exact hT.1 x (List.mem_of_getElem? hx)
              · rw [e1] at hx
                by_cases hlt : k < b.length
                · rw [List.getElem?_append_left hlt] at hx; exact hT.1 x (List.mem_of_getElem? hx)
                · rw [List.getElem?_append_right (by omega)] at hx
                  have : k - b.length = (k - b.length - 1) + 1 := by omega
                  rw [this] at hx
                  simp at hx
                  exact hmm x (List.mem_of_getElem? hx)
            obtain ⟨q1, q2, q3⟩ := isArith_no hxt
            have hlp2 : ∃ ar, wr = tW w 1 ar ∧ (u9 = .int .i64 hi ∨ u9 = .int .i64 ((lo + a.length + 1 + b.length : Nat) : Int)) ∧ Lp w 1 av b rest (lo + a.length + 1) hi (k + 1) u9 wr := by
              rcases hlp with ⟨e1, e2, e3⟩ | ⟨e1, e2, e3⟩
              · exact ⟨0, e3, Or.inl e2, Or.inl ⟨by omega, e2, e3⟩⟩
              · exact ⟨av, e3, Or.inr e2, Or.inr ⟨by omega, e2, e3⟩⟩
            obtain ⟨ar, rfl, hu9, hlp3⟩ := hlp2
            have d0 := (HC.out 1 ar).c0
            have cb2 := (HC.out 1 ar).bs _ _ hLx
            simp only at d0 cb2
            have HLP : Hid (Lp w 1 av b rest (lo + a.length + 1) hi (k + 1) u9 (tW w 1 ar)) := hlp3
            clear hx hLx hlp hlp3 c0 cb
            generalize tW w 1 ar = W at *
            go_wp2
            go_roundg (rest.length + 1 - (k + 1))
            case measure => omega
            case rel => exact ⟨k + 1, by push_cast; simp; omega, rfl, by omega, HLP.out⟩
        · have hkr : k = rest.length := by omega
          have hcase : ∃ ar9, wr = tW w 1 av ∧ u9 = .int .i64 ((lo + a.length + 1 + ar9 : Nat) : Int) ∧ ar9 = ee := by
            rcases hT.2 with ⟨e1, e2, e3⟩ | ⟨d, q, m, _, _, e1, e2, e3⟩
            · rcases hlp with ⟨g1, g2, g3⟩ | ⟨g1, g2, g3⟩
              · refine ⟨ee, by rw [g3, e2], ?_, rfl⟩
                rw [g2, HH.out, e3, ← e1]
              · rw [hkr, e1] at g1; omega
            · rcases hlp with ⟨g1, g2, g3⟩ | ⟨g1, g2, g3⟩
              · exfalso; rw [hkr, e1, List.length_append, List.length_cons] at g1; omega
              · exact ⟨ee, g3, by rw [g2, e3], rfl⟩
          obtain ⟨ar9, rfl, rfl, rfl⟩ := hcase
          clear hlp hT c0 cb
          have e28 : lo + a.length + 1 + ar9 ≤ hi := by rw [HH.out]; omega
          have hend : ¬ lo + a.length + 1 + k < hi := by rw [HH.out]; omega
          have C0 : Hid (Cu (tW w 1 av) ⟨C, gs, cs, ga, ca, T⟩ L) := HC.out _ _
          unfold tW at C0 ⊢
          go_wp2_with fail
          refine (h1 _ C0.out).mono ?_
          obtain ⟨l0, l1, l2⟩ := tl
          obtain ⟨m0, m1, m2⟩ := tr
          obtain ⟨n0, n1, n2⟩ := tm
          unfold tmV at h2 h3 ⊢
          simp only at h2 h3 ⊢
          rintro e w1 ⟨rfl, k1⟩
          have K1 : Hid (Nw w w1) := (((Kp.refl _ w).alloc _).alloc _).trans k1
          obtain ⟨fA, zA⟩ := k1.sm (B := w.heap.size) (by simp; omega) (fun h => h)
          obtain ⟨fB, zB⟩ := k1.sm (B := w.heap.size + 1) (by simp) (fun h => h)
          have hs1 : w.heap.size + 1 < w1.heap.size := Nat.lt_of_lt_of_le (by simp) k1.size
          have C1 : Hid (Cu (((w1.setCell ⟨w.heap.size + 1, 0, none⟩ (.int .i64 l0)).setCell ⟨w.heap.size + 1, 1, none⟩ (.int .i64 l1)).setCell ⟨w.heap.size + 1, 2, none⟩ (.int .i64 l2)) ⟨C, gs, cs, ga, ca, T⟩ L) :=
            H.out.nw (((K1.out.setCell (p := ⟨w.heap.size + 1, 0, none⟩) (Or.inl (by simp)) _).setCell (p := ⟨w.heap.size + 1, 1, none⟩) (Or.inl (by simp)) _).setCell (p := ⟨w.heap.size + 1, 2, none⟩) (Or.inl (by simp)) _)
          clear k1 C0 h1
          go_wp2_with fail
          refine (h2 _ C1.out).mono ?_
          rintro e w2 ⟨rfl, k2⟩
          obtain ⟨gA, yA⟩ := k2.sm (B := w.heap.size) (by simp [World.setCell]; omega) (fun h => h)
          obtain ⟨gB, yB⟩ := k2.sm (B := w.heap.size + 1) (by simp [World.setCell]; omega) (fun h => h)
          have b0 : w2.cell? ⟨w.heap.size + 1, 0, none⟩ = some (.int .i64 l0) := by rw [gB]; simp [go_sem, fB]
          have b1 : w2.cell? ⟨w.heap.size + 1, 1, none⟩ = some (.int .i64 l1) := by rw [gB]; simp [go_sem, fB]
          have b2 : w2.cell? ⟨w.heap.size + 1, 2, none⟩ = some (.int .i64 l2) := by rw [gB]; simp [go_sem, fB]
          have b3 : w2.cell? ⟨w.heap.size + 1, 3, none⟩ = some (.int .i64 1) := by rw [gB]; simp [go_sem, fB]
          have b4 : w2.cell? ⟨w.heap.size + 1, 4, none⟩ = some (.int .i64 0) := by rw [gB]; simp [go_sem, fB]
          have b5 : w2.cell? ⟨w.heap.size + 1, 5, none⟩ = some (.int .i64 0) := by rw [gB]; simp [go_sem, fB]
          have b6 : w2.cell? ⟨w.heap.size + 1, 6, none⟩ = some (.int .i64 0) := by rw [gB]; simp [go_sem, fB]
          have b7 : w2.cell? ⟨w.heap.size + 1, 7, none⟩ = some (.int .i64 av) := by rw [gB]; simp [go_sem, fB]
          have b8 : w2.cell? ⟨w.heap.size + 1, 8, none⟩ = some (.int .i64 0) := by rw [gB]; simp [go_sem, fB]
          have b9 : w2.cell? ⟨w.heap.size + 1, 9, none⟩ = some (.int .i64 0) := by rw [gB]; simp [go_sem, fB]
          have b10 : w2.cell? ⟨w.heap.size + 1, 10, none⟩ = some (.int .i64 0) := by rw [gB]; simp [go_sem, fB]
          have zB2 : ∀ o, w2.frozen? ⟨w.heap.size + 1, o, none⟩ = false := by intro o; rw [yB]; simp [go_sem, zB]
          have fA2 : ∀ o, w2.cell? ⟨w.heap.size, o, none⟩ = (w.alloc (.cells #[.int .i64 0, .int .i64 0, .int .i64 0, .int .i64 0, .int .i64 0, .int .i64 0, .int .i64 0, .int .i64 0, .int .i64 0, .int .i64 0, .int .i64 0] 38)).cell? ⟨w.heap.size, o, none⟩ := by intro o; rw [gA]; simp [go_sem, fA]
          have zA2 : ∀ o, w2.frozen? ⟨w.heap.size, o, none⟩ = false := by intro o; rw [yA]; simp [go_sem, zA]
          have hs2 : w.heap.size + 1 < w2.heap.size := by have := k2.size; simp [World.setCell] at this; omega
          have K2 : Hid (Nw w w2) := (((K1.out.setCell (p := ⟨w.heap.size + 1, 0, none⟩) (Or.inl (by simp)) _).setCell (p := ⟨w.heap.size + 1, 1, none⟩) (Or.inl (by simp)) _).setCell (p := ⟨w.heap.size + 1, 2, none⟩) (Or.inl (by simp)) _).trans k2
          clear k2 C1 h2 fA fB zA zB gA gB yA yB
          by_cases hmore : lo + a.length + 1 + ar9 < hi
          · have C2 : Hid (Cu (((w2.setCell ⟨w.heap.size + 1, 4, none⟩ (.int .i64 m0)).setCell ⟨w.heap.size + 1, 5, none⟩ (.int .i64 m1)).setCell ⟨w.heap.size + 1, 6, none⟩ (.int .i64 m2)) ⟨C, gs, cs, ga, ca, T⟩ L) :=
              H.out.nw (((K2.out.setCell (p := ⟨w.heap.size + 1, 4, none⟩) (Or.inl (by simp)) _).setCell (p := ⟨w.heap.size + 1, 5, none⟩) (Or.inl (by simp)) _).setCell (p := ⟨w.heap.size + 1, 6, none⟩) (Or.inl (by simp)) _)
            go_wp2_with fail
            refine (h3 hmore _ C2.out).mono ?_
            rintro e w3 ⟨rfl, k3⟩
            obtain ⟨hA, yA⟩ := k3.sm (B := w.heap.size) (by simp [World.setCell]; omega) (fun h => h)
            obtain ⟨hB, yB⟩ := k3.sm (B := w.heap.size + 1) (by simp [World.setCell]; omega) (fun h => h)
            have d0 : w3.cell? ⟨w.heap.size + 1, 0, none⟩ = some (.int .i64 l0) := by rw [hB]; simp [go_sem, b0, b4, b5, b6]
            have d1 : w3.cell? ⟨w.heap.size + 1, 1, none⟩ = some (.int .i64 l1) := by rw [hB]; simp [go_sem, b1, b4, b5, b6]
            have d2 : w3.cell? ⟨w.heap.size + 1, 2, none⟩ = some (.int .i64 l2) := by rw [hB]; simp [go_sem, b2, b4, b5, b6]
            have d3 : w3.cell? ⟨w.heap.size + 1, 3, none⟩ = some (.int .i64 1) := by rw [hB]; simp [go_sem, b3, b4, b5, b6]
            have d4 : w3.cell? ⟨w.heap.size + 1, 4, none⟩ = some (.int .i64 m0) := by rw [hB]; simp [go_sem, b4, b4, b5, b6]
            have d5 : w3.cell? ⟨w.heap.size + 1, 5, none⟩ = some (.int .i64 m1) := by rw [hB]; simp [go_sem, b5, b4, b5, b6]
            have d6 : w3.cell? ⟨w.heap.size + 1, 6, none⟩ = some (.int .i64 m2) := by rw [hB]; simp [go_sem, b6, b4, b5, b6]
            have d7 : w3.cell? ⟨w.heap.size + 1, 7, none⟩ = some (.int .i64 av) := by rw [hB]; simp [go_sem, b7, b4, b5, b6]
            have d8 : w3.cell? ⟨w.heap.size + 1, 8, none⟩ = some (.int .i64 0) := by rw [hB]; simp [go_sem, b8, b4, b5, b6]
            have d9 : w3.cell? ⟨w.heap.size + 1, 9, none⟩ = some (.int .i64 0) := by rw [hB]; simp [go_sem, b9, b4, b5, b6]
            have d10 : w3.cell? ⟨w.heap.size + 1, 10, none⟩ = some (.int .i64 0) := by rw [hB]; simp [go_sem, b10, b4, b5, b6]
            have zB3 : ∀ o, w3.frozen? ⟨w.heap.size + 1, o, none⟩ = false := by intro o; rw [yB]; simp [go_sem, zB2]
            have fA3 : ∀ o, w3.cell? ⟨w.heap.size, o, none⟩ = (w.alloc (.cells #[.int .i64 0, .int .i64 0, .int .i64 0, .int .i64 0, .int .i64 0, .int .i64 0, .int .i64 0, .int .i64 0, .int .i64 0, .int .i64 0, .int .i64 0] 38)).cell? ⟨w.heap.size, o, none⟩ := by intro o; rw [hA]; simp [go_sem, fA2]
            have zA3 : ∀ o, w3.frozen? ⟨w.heap.size, o, none⟩ = false := by intro o; rw [yA]; simp [go_sem, zA2]
            have hs3 : w.heap.size + 1 < w3.heap.size := by have := k3.size; simp [World.setCell] at this; omega
            have K3 : Hid (Nw w w3) := (((K2.out.setCell (p := ⟨w.heap.size + 1, 4, none⟩) (Or.inl (by simp)) _).setCell (p := ⟨w.heap.size + 1, 5, none⟩) (Or.inl (by simp)) _).setCell (p := ⟨w.heap.size + 1, 6, none⟩) (Or.inl (by simp)) _).trans k3
            clear k3 C2 h3 fA2 zA2 zB2 hA hB yA yB b0 b1 b2 b3 b4 b5 b6 b7 b8 b9 b10
            have HW : Hid ((((w3.setCell ⟨w.heap.size + 1, 8, none⟩ (.int .i64 n0)).setCell ⟨w.heap.size + 1, 9, none⟩ (.int .i64 n1)).setCell ⟨w.heap.size + 1, 10, none⟩ (.int .i64 n2)).rangeAt (w.heap.size + 1) 0 (c11 l0 l1 l2 1 m0 m1 m2 av n0 n1 n2)) := range11 (by simp [go_sem, *]) (by simp [go_sem, *]) (by simp [go_sem, *]) (by simp [go_sem, *]) (by simp [go_sem, *]) (by simp [go_sem, *]) (by simp [go_sem, *]) (by simp [go_sem, *]) (by simp [go_sem, *]) (by simp [go_sem, *]) (by simp [go_sem, *])
            have HTH : Hid ((((w3.setCell ⟨w.heap.size + 1, 8, none⟩ (.int .i64 n0)).setCell ⟨w.heap.size + 1, 9, none⟩ (.int .i64 n1)).setCell ⟨w.heap.size + 1, 10, none⟩ (.int .i64 n2)).there w.heap.size 0 (c11 l0 l1 l2 1 m0 m1 m2 av n0 n1 n2).toArray.size) := by
              intro j hj
              have hj' : j < 11 := by simpa [c11] using hj
              refine ⟨?_, by simp [go_sem, zA3]⟩
              rw [Nat.zero_add]
              simp [go_sem, fA3]
              omega
            obtain ⟨dd, hu, hd⟩ := Option.map_eq_some_iff.1 Tryz.row38
            have HU : Hid (Tryz.prog.underlying 38 = some dd) := hu
            have HD : Hid (dd.isRow = true) := hd
            clear hu hd
            go_wp2_with (first
              | (with_reducible (show Go.wpList _ _ _ ({ dst := _, op := Op.load 38 _, type := _, pos := _, after := _, guard := _ } :: _) _ _); refine wpList_load_mid rfl 38 _ rfl (w.heap.size + 1) 0 rfl (c11 l0 l1 l2 1 m0 m1 m2 av n0 n1 n2) dd HW.out HU.out HD.out (c11_size _ _ _ _ _ _ _ _ _ _ _) ?_)
              | (with_reducible (show Go.wpList _ _ _ ({ dst := _, op := Op.store 38 _ _, type := _, pos := _, after := _, guard := _ } :: _) _ _); refine wpList_store_mid rfl 38 _ _ rfl w.heap.size 0 (c11 l0 l1 l2 1 m0 m1 m2 av n0 n1 n2).toArray rfl rfl HTH.out (by simpa using c11_size _ _ _ _ _ _ _ _ _ _ _) (all_oneCell_toArray (c11_one _ _ _ _ _ _ _ _ _ _ _)) ?_)
              | fail)
            refine bodyPost_ret (v := .agg (c11 l0 l1 l2 1 m0 m1 m2 av n0 n1 n2).toArray) (results_cell Tryz.results244 _ _ _ ⟨w.heap.size, 0, none⟩ rfl _ (run_loadVar_mid _ w.heap.size 0 38 (c11 l0 l1 l2 1 m0 m1 m2 av n0 n1 n2) dd (by simpa using World.rangeAt_setCells_same (((w3.setCell ⟨w.heap.size + 1, 8, none⟩ (.int .i64 n0)).setCell ⟨w.heap.size + 1, 9, none⟩ (.int .i64 n1)).setCell ⟨w.heap.size + 1, 10, none⟩ (.int .i64 n2)) w.heap.size 0 (c11 l0 l1 l2 1 m0 m1 m2 av n0 n1 n2) (by simpa using HTH.out)) HU.out HD.out (c11_size _ _ _ _ _ _ _ _ _ _ _))) rfl ?_
            exact ⟨rfl, nw_setCells w.heap.size (Nat.le_refl _) (((K3.out.setCell (p := ⟨w.heap.size + 1, 8, none⟩) (Or.inl (by simp)) _).setCell (p := ⟨w.heap.size + 1, 9, none⟩) (Or.inl (by simp)) _).setCell (p := ⟨w.heap.size + 1, 10, none⟩) (Or.inl (by simp)) _) _ _⟩
          · obtain ⟨rfl, rfl, rfl⟩ : n0 = 0 ∧ n1 = 0 ∧ n2 = 0 := by
              have := h4 (by omega)
              simpa [tm0] using this
            have HW : Hid ((((w2.setCell ⟨w.heap.size + 1, 4, none⟩ (.int .i64 m0)).setCell ⟨w.heap.size + 1, 5, none⟩ (.int .i64 m1)).setCell ⟨w.heap.size + 1, 6, none⟩ (.int .i64 m2)).rangeAt (w.heap.size + 1) 0 (c11 l0 l1 l2 1 m0 m1 m2 av 0 0 0)) := range11 (by simp [go_sem, *]) (by simp [go_sem, *]) (by simp [go_sem, *]) (by simp [go_sem, *]) (by simp [go_sem, *]) (by simp [go_sem, *]) (by simp [go_sem, *]) (by simp [go_sem, *]) (by simp [go_sem, *]) (by simp [go_sem, *]) (by simp [go_sem, *])
            have HTH : Hid ((((w2.setCell ⟨w.heap.size + 1, 4, none⟩ (.int .i64 m0)).setCell ⟨w.heap.size + 1, 5, none⟩ (.int .i64 m1)).setCell ⟨w.heap.size + 1, 6, none⟩ (.int .i64 m2)).there w.heap.size 0 (c11 l0 l1 l2 1 m0 m1 m2 av 0 0 0).toArray.size) := by
              intro j hj
              have hj' : j < 11 := by simpa [c11] using hj
              refine ⟨?_, by simp [go_sem, zA2]⟩
              rw [Nat.zero_add]
              simp [go_sem, fA2]
              omega
            obtain ⟨dd, hu, hd⟩ := Option.map_eq_some_iff.1 Tryz.row38
            have HU : Hid (Tryz.prog.underlying 38 = some dd) := hu
            have HD : Hid (dd.isRow = true) := hd
            clear hu hd
            go_wp2_with (first
              | (with_reducible (show Go.wpList _ _ _ ({ dst := _, op := Op.load 38 _, type := _, pos := _, after := _, guard := _ } :: _) _ _); refine wpList_load_mid rfl 38 _ rfl (w.heap.size + 1) 0 rfl (c11 l0 l1 l2 1 m0 m1 m2 av 0 0 0) dd HW.out HU.out HD.out (c11_size _ _ _ _ _ _ _ _ _ _ _) ?_)
              | (with_reducible (show Go.wpList _ _ _ ({ dst := _, op := Op.store 38 _ _, type := _, pos := _, after := _, guard := _ } :: _) _ _); refine wpList_store_mid rfl 38 _ _ rfl w.heap.size 0 (c11 l0 l1 l2 1 m0 m1 m2 av 0 0 0).toArray rfl rfl HTH.out (by simpa using c11_size _ _ _ _ _ _ _ _ _ _ _) (all_oneCell_toArray (c11_one _ _ _ _ _ _ _ _ _ _ _)) ?_)
              | fail)
            refine bodyPost_ret (v := .agg (c11 l0 l1 l2 1 m0 m1 m2 av 0 0 0).toArray) (results_cell Tryz.results244 _ _ _ ⟨w.heap.size, 0, none⟩ rfl _ (run_loadVar_mid _ w.heap.size 0 38 (c11 l0 l1 l2 1 m0 m1 m2 av 0 0 0) dd (by simpa using World.rangeAt_setCells_same (((w2.setCell ⟨w.heap.size + 1, 4, none⟩ (.int .i64 m0)).setCell ⟨w.heap.size + 1, 5, none⟩ (.int .i64 m1)).setCell ⟨w.heap.size + 1, 6, none⟩ (.int .i64 m2)) w.heap.size 0 (c11 l0 l1 l2 1 m0 m1 m2 av 0 0 0) (by simpa using HTH.out)) HU.out HD.out (c11_size _ _ _ _ _ _ _ _ _ _ _))) rfl ?_
            exact ⟨rfl, nw_setCells w.heap.size (Nat.le_refl _) (((K2.out.setCell (p := ⟨w.heap.size + 1, 4, none⟩) (Or.inl (by simp)) _).setCell (p := ⟨w.heap.size + 1, 5, none⟩) (Or.inl (by simp)) _).setCell (p := ⟨w.heap.size + 1, 6, none⟩) (Or.inl (by simp)) _) _ _⟩
set_option maxRecDepth 100000 in
set_option maxHeartbeats 2000000 in
theorem testC_61 (P : CuP) (L : List Tok) (lo hi : Nat) (a b : List Tok) (p : Nat) (rest : List Tok) (av : Int) (ee : Nat) (tl tr tm : Tm) (w : World) (h : Cu w P L) (ha : ∀ c ∈ a, TmC c.1) (hS : Sub L lo (a ++ ((61 : Int), p) :: rest)) (hhi : hi = lo + a.length + 1 + rest.length)
    (hT : Tail b av rest ee)
    (h1 : ∀ w', Cu w' P L → Calls Tryz.prog 252 #[.pointer (some ⟨P.C, 0, none⟩), .int .i64 lo, .int .i64 ((lo + a.length : Nat) : Int)] w' fun e w'' => e = .returned (tmV tl) ∧ Nw w' w'')
    (h2 : ∀ w', Cu w' P L → Calls Tryz.prog 252 #[.pointer (some ⟨P.C, 0, none⟩), .int .i64 ((lo + a.length + 1 : Nat) : Int), .int .i64 ((lo + a.length + 1 + ee : Nat) : Int)] w' fun e w'' => e = .returned (tmV tr) ∧ Nw w' w'')
    (h3 : lo + a.length + 1 + ee < hi → ∀ w', Cu w' P L → Calls Tryz.prog 252 #[.pointer (some ⟨P.C, 0, none⟩), .int .i64 ((lo + a.length + 1 + ee + 1 : Nat) : Int), .int .i64 hi] w' fun e w'' => e = .returned (tmV tm) ∧ Nw w' w'')
    (h4 : lo + a.length + 1 + ee = hi → tm = tm0) :
    Calls Tryz.prog 244 #[.pointer (some ⟨P.C, 0, none⟩), .int .i64 lo, .int .i64 hi] w fun e w' => e = .returned (.agg (tsV ⟨tl, 2, tr, av, tm⟩)) ∧ Nw w w' := by
  have H : Hid (Cu w P L) := h
  have hlen := h.len
  have hle := hS.le (by simp; omega)
  simp only [List.length_append, List.length_cons] at hle
  have HS : Hid (Sub L lo (a ++ ((61 : Int), p) :: rest)) := hS
  have hLr : L[lo + a.length]? = some (61, p) := (hS.right rfl).head
  have HS2 : Hid (Sub L (lo + a.length + 1) rest) := (hS.right rfl).tail
  have HC : Hid (∀ x y, Cu (tW w x y) P L) := fun x y => H.out.nw (nw_tW w x y)
  have hrl : ee ≤ rest.length := by
    rcases hT.2 with ⟨e1, _, e2⟩ | ⟨d, q, m, _, _, e1, _, e2⟩ <;> rw [e1, e2] <;> simp
  have HH : Hid (hi = lo + a.length + 1 + rest.length) := hhi
  have hhl : hi ≤ 1000 := by omega
  have hhl3 : hi ≤ L.length := by omega
  have hlL : lo + a.length < L.length := by omega
  have hhl2 : lo + a.length < hi := by omega
  clear hS h hhi hle
  obtain ⟨C, gs, cs, ga, ca, T⟩ := P
  go_enter Tryz.func244, Tryz.ntmps244
  go_wp2
  go_loopg [8] (a.length + 1) (fun m v8 wr => ∃ k : Nat, v8 = .int .i64 ((lo + k : Nat) : Int) ∧ m = a.length + 1 - k ∧ k ≤ a.length ∧ wr = tW w 0 0)
  case atStart => exact ⟨0, by simp, by omega, by omega, rfl⟩
  case round =>
    obtain ⟨k, rfl, hm, hk, rfl⟩ := hrel
    have c0 := (HC.out 0 0).c0
    simp only at c0
    by_cases hk' : k < a.length
    · obtain ⟨x, hx⟩ : ∃ x, a[k]? = some x := ⟨a[k], by simp [hk']⟩
      have hLx : L[lo + k]? = some x := HS.out k x (by rw [List.getElem?_append_left hk']; exact hx)
      have cb := (HC.out 0 0).bs (lo + k) x hLx
      obtain ⟨r0, r1⟩ := H.out.rg x (List.mem_of_getElem? hLx)
      have hxr : isRelB x.1 = false := isRel_no (by have := (ha x (List.mem_of_getElem? hx)).range; omega)
      simp only at cb
      clear hx hLx
      generalize hW : tW w 0 0 = W at *
      have HW : Hid (tW w 0 0 = W) := hW
      clear hW
      go_wp2_with (go_at_call 229; refine (isRel_any x.1 _).mono ?_; rw [hxr]; rintro e w1 ⟨rfl, rfl⟩)
      go_roundg (a.length + 1 - (k + 1))
      case measure => omega
      case rel => exact ⟨k + 1, by push_cast; simp; omega, rfl, by omega, rfl⟩
    · have ek : k = a.length := by omega
      subst ek
      have cb := (HC.out 0 0).bs _ _ hLr
      simp only at cb
      unfold tW at c0 cb ⊢
      go_wp2_with (go_at_call 229; refine (isRel_any _ _).mono ?_; rw [show isRelB 61 = true from rfl]; rintro e w1 ⟨rfl, rfl⟩)
      go_loopg [9, 10] (rest.length + 1) (fun m v9 v10 wr => ∃ k : Nat, v10 = .int .i64 ((lo + a.length + 1 + k : Nat) : Int) ∧ m = rest.length + 1 - k ∧ k ≤ rest.length ∧ Lp w 2 av b rest (lo + a.length + 1) hi k v9 wr)
      case atStart => exact ⟨0, by push_cast; simp, by omega, by omega, Or.inl ⟨by omega, rfl, rfl⟩⟩
      case round =>
        obtain ⟨k, rfl, hm2, hk2, hlp⟩ := hrel
        by_cases hk3 : k < rest.length
        · obtain ⟨x, hx⟩ : ∃ x, rest[k]? = some x := ⟨rest[k], by simp [hk3]⟩
          have hLx := HS2.out k x hx
          obtain ⟨r0, r1⟩ := H.out.rg x (List.mem_of_getElem? hLx)
          have hidx : lo + a.length + 1 + k < L.length := (List.getElem?_eq_some_iff.1 hLx).1
          have hih : lo + a.length + 1 + k < hi := by rw [HH.out]; omega
          by_cases hkb : k = b.length
          · subst hkb
            obtain ⟨d, q, m, hda, hmm, hre, hav, hee⟩ : ∃ d q m, isArithB d = true ∧ (∀ c ∈ m, TmC c.1) ∧ rest = b ++ (d, q) :: m ∧ av = arithV d ∧ ee = b.length := by
              rcases hT.2 with ⟨e1, _, _⟩ | hh
              · rw [e1] at hk3; omega
              · exact hh
            have hxd : x = (d, q) := by
              rw [hre, List.getElem?_append_right (by omega)] at hx
              simp at hx; exact hx.symm
            subst hxd
            obtain ⟨rfl, rfl⟩ : u9 = .int .i64 hi ∧ wr = tW w 2 0 := by
              rcases hlp with ⟨e1, e2, e3⟩ | ⟨e1, e2, e3⟩
              · exact ⟨e2, e3⟩
              · omega
            have d0 := (HC.out 2 0).c0
            have cb2 := (HC.out 2 0).bs _ _ hLx
            simp only at d0 cb2
            have hlp4 : Hid (∀ wr', wr' = tW w 2 av → Lp w 2 av b rest (lo + a.length + 1) hi (b.length + 1) (.int .i64 ((lo + a.length + 1 + b.length : Nat) : Int)) wr') := fun wr' e => Or.inr ⟨by omega, rfl, e⟩
            have HAV : Hid (av = arithV d) := hav
            have hd3 : d = 43 ∨ d = 45 ∨ d = 42 := (isArith_iff' d).1 hda
            clear hx hLx hlp c0 cb hre hav hee hda hmm
            unfold tW at d0 cb2 ⊢
            rcases hd3 with rfl | rfl | rfl
            all_goals
              go_wp2
              go_roundg (rest.length + 1 - (b.length + 1))
              case measure => omega
              case rel => exact ⟨b.length + 1, by push_cast; simp; omega, rfl, by omega, hlp4.out _ (by rw [HAV.out]; rfl)⟩
          · have hxt : TmC x.1 := by
              rcases hT.2 with ⟨e1, _, _⟩ | ⟨d, q, m, _, hmm, e1, _, _⟩
              · rw [e1] at hx; exact hT.1 x (List.mem_of_getElem? hx)
              · rw [e1] at hx
                by_cases hlt : k < b.length
                · rw [List.getElem?_append_left hlt] at hx; exact hT.1 x (List.mem_of_getElem? hx)
                · rw [List.getElem?_append_right (by omega)] at hx
                  have : k - b.length = (k - b.length - 1) + 1 := by omega
                  rw [this] at hx
                  simp at hx
                  exact hmm x (List.mem_of_getElem? hx)
            obtain ⟨q1, q2, q3⟩ := isArith_no hxt
            have hlp2 : ∃ ar, wr = tW w 2 ar ∧ (u9 = .int .i64 hi ∨ u9 = .int .i64 ((lo + a.length + 1 + b.length : Nat) : Int)) ∧ Lp w 2 av b rest (lo + a.length + 1) hi (k + 1) u9 wr := by
              rcases hlp with ⟨e1, e2, e3⟩ | ⟨e1, e2, e3⟩
              · exact ⟨0, e3, Or.inl e2, Or.inl ⟨by omega, e2, e3⟩⟩
              · exact ⟨av, e3, Or.inr e2, Or.inr ⟨by omega, e2, e3⟩⟩
            obtain ⟨ar, rfl, hu9, hlp3⟩ := hlp2
            have d0 := (HC.out 2 ar).c0
            have cb2 := (HC.out 2 ar).bs _ _ hLx
            simp only at d0 cb2
            have HLP : Hid (Lp w 2 av b rest (lo + a.length + 1) hi (k + 1) u9 (tW w 2 ar)) := hlp3
            clear hx hLx hlp hlp3 c0 cb
            generalize tW w 2 ar = W at *
            go_wp2
            go_roundg (rest.length + 1 - (k + 1))
            case measure => omega
            case rel => exact ⟨k + 1, by push_cast; simp; omega, rfl, by omega, HLP.out⟩
        · have hkr : k = rest.length := by omega
          have hcase : ∃ ar9, wr = tW w 2 av ∧ u9 = .int .i64 ((lo + a.length + 1 + ar9 : Nat) : Int) ∧ ar9 = ee := by
            rcases hT.2 with ⟨e1, e2, e3⟩ | ⟨d, q, m, _, _, e1, e2, e3⟩
            · rcases hlp with ⟨g1, g2, g3⟩ | ⟨g1, g2, g3⟩
              · refine ⟨ee, by rw [g3, e2], ?_, rfl⟩
                rw [g2, HH.out, e3, ← e1]
              · rw [hkr, e1] at g1; omega
            · rcases hlp with ⟨g1, g2, g3⟩ | ⟨g1, g2, g3⟩
              · exfalso; rw [hkr, e1, List.length_append, List.length_cons] at g1; omega
              · exact ⟨ee, g3, by rw [g2, e3], rfl⟩
          obtain ⟨ar9, rfl, rfl, rfl⟩ := hcase
          clear hlp hT c0 cb
          have e28 : lo + a.length + 1 + ar9 ≤ hi := by rw [HH.out]; omega
          have hend : ¬ lo + a.length + 1 + k < hi := by rw [HH.out]; omega
          have C0 : Hid (Cu (tW w 2 av) ⟨C, gs, cs, ga, ca, T⟩ L) := HC.out _ _
          unfold tW at C0 ⊢
          go_wp2_with fail
          refine (h1 _ C0.out).mono ?_
          obtain ⟨l0, l1, l2⟩ := tl
          obtain ⟨m0, m1, m2⟩ := tr
          obtain ⟨n0, n1, n2⟩ := tm
          unfold tmV at h2 h3 ⊢
          simp only at h2 h3 ⊢
          rintro e w1 ⟨rfl, k1⟩
          have K1 : Hid (Nw w w1) := (((Kp.refl _ w).alloc _).alloc _).trans k1
          obtain ⟨fA, zA⟩ := k1.sm (B := w.heap.size) (by simp; omega) (fun h => h)
          obtain ⟨fB, zB⟩ := k1.sm (B := w.heap.size + 1) (by simp) (fun h => h)
          have hs1 : w.heap.size + 1 < w1.heap.size := Nat.lt_of_lt_of_le (by simp) k1.size
          have C1 : Hid (Cu (((w1.setCell ⟨w.heap.size + 1, 0, none⟩ (.int .i64 l0)).setCell ⟨w.heap.size + 1, 1, none⟩ (.int .i64 l1)).setCell ⟨w.heap.size + 1, 2, none⟩ (.int .i64 l2)) ⟨C, gs, cs, ga, ca, T⟩ L) :=
            H.out.nw (((K1.out.setCell (p := ⟨w.heap.size + 1, 0, none⟩) (Or.inl (by simp)) _).setCell (p := ⟨w.heap.size + 1, 1, none⟩) (Or.inl (by simp)) _).setCell (p := ⟨w.heap.size + 1, 2, none⟩) (Or.inl (by simp)) _)
          clear k1 C0 h1
          go_wp2_with fail
          refine (h2 _ C1.out).mono ?_
          rintro e w2 ⟨rfl, k2⟩
          obtain ⟨gA, yA⟩ := k2.sm (B := w.heap.size) (by simp [World.setCell]; omega) (fun h => h)
          obtain ⟨gB, yB⟩ := k2.sm (B := w.heap.size + 1) (by simp [World.setCell]; omega) (fun h => h)
          have b0 : w2.cell? ⟨w.heap.size + 1, 0, none⟩ = some (.int .i64 l0) := by rw [gB]; simp [go_sem, fB]
          have b1 : w2.cell? ⟨w.heap.size + 1, 1, none⟩ = some (.int .i64 l1) := by rw [gB]; simp [go_sem, fB]
          have b2 : w2.cell? ⟨w.heap.size + 1, 2, none⟩ = some (.int .i64 l2) := by rw [gB]; simp [go_sem, fB]
          have b3 : w2.cell? ⟨w.heap.size + 1, 3, none⟩ = some (.int .i64 2) := by rw [gB]; simp [go_sem, fB]
          have b4 : w2.cell? ⟨w.heap.size + 1, 4, none⟩ = some (.int .i64 0) := by rw [gB]; simp [go_sem, fB]
          have b5 : w2.cell? ⟨w.heap.size + 1, 5, none⟩ = some (.int .i64 0) := by rw [gB]; simp [go_sem, fB]
          have b6 : w2.cell? ⟨w.heap.size + 1, 6, none⟩ = some (.int .i64 0) := by rw [gB]; simp [go_sem, fB]
          have b7 : w2.cell? ⟨w.heap.size + 1, 7, none⟩ = some (.int .i64 av) := by rw [gB]; simp [go_sem, fB]
          have b8 : w2.cell? ⟨w.heap.size + 1, 8, none⟩ = some (.int .i64 0) := by rw [gB]; simp [go_sem, fB]
          have b9 : w2.cell? ⟨w.heap.size + 1, 9, none⟩ = some (.int .i64 0) := by rw [gB]; simp [go_sem, fB]
          have b10 : w2.cell? ⟨w.heap.size + 1, 10, none⟩ = some (.int .i64 0) := by rw [gB]; simp [go_sem, fB]
          have zB2 : ∀ o, w2.frozen? ⟨w.heap.size + 1, o, none⟩ = false := by intro o; rw [yB]; simp [go_sem, zB]
          have fA2 : ∀ o, w2.cell? ⟨w.heap.size, o, none⟩ = (w.alloc (.cells #[.int .i64 0, .int .i64 0, .int .i64 0, .int .i64 0, .int .i64 0, .int .i64 0, .int .i64 0, .int .i64 0, .int .i64 0, .int .i64 0, .int .i64 0] 38)).cell? ⟨w.heap.size, o, none⟩ := by intro o; rw [gA]; simp [go_sem, fA]
          have zA2 : ∀ o, w2.frozen? ⟨w.heap.size, o, none⟩ = false := by intro o; rw [yA]; simp [go_sem, zA]
          have hs2 : w.heap.size + 1 < w2.heap.size := by have := k2.size; simp [World.setCell] at this; omega
          have K2 : Hid (Nw w w2) := (((K1.out.setCell (p := ⟨w.heap.size + 1, 0, none⟩) (Or.inl (by simp)) _).setCell (p := ⟨w.heap.size + 1, 1, none⟩) (Or.inl (by simp)) _).setCell (p := ⟨w.heap.size + 1, 2, none⟩) (Or.inl (by simp)) _).trans k2
          clear k2 C1 h2 fA fB zA zB gA gB yA yB
          by_cases hmore : lo + a.length + 1 + ar9 < hi
          · have C2 : Hid (Cu (((w2.setCell ⟨w.heap.size + 1, 4, none⟩ (.int .i64 m0)).setCell ⟨w.heap.size + 1, 5, none⟩ (.int .i64 m1)).setCell ⟨w.heap.size + 1, 6, none⟩ (.int .i64 m2)) ⟨C, gs, cs, ga, ca, T⟩ L) :=
              H.out.nw (((K2.out.setCell (p := ⟨w.heap.size + 1, 4, none⟩) (Or.inl (by simp)) _).setCell (p := ⟨w.heap.size + 1, 5, none⟩) (Or.inl (by simp)) _).setCell (p := ⟨w.heap.size + 1, 6, none⟩) (Or.inl (by simp)) _)
            go_wp2_with fail
            refine (h3 hmore _ C2.out).mono ?_
            rintro e w3 ⟨rfl, k3⟩
            obtain ⟨hA, yA⟩ := k3.sm (B := w.heap.size) (by simp [World.setCell]; omega) (fun h => h)
            obtain ⟨hB, yB⟩ := k3.sm (B := w.heap.size + 1) (by simp [World.setCell]; omega) (fun h => h)
            have d0 : w3.cell? ⟨w.heap.size + 1, 0, none⟩ = some (.int .i64 l0) := by rw [hB]; simp [go_sem, b0, b4, b5, b6]
            have d1 : w3.cell? ⟨w.heap.size + 1, 1, none⟩ = some (.int .i64 l1) := by rw [hB]; simp [go_sem, b1, b4, b5, b6]
            have d2 : w3.cell? ⟨w.heap.size + 1, 2, none⟩ = some (.int .i64 l2) := by rw [hB]; simp [go_sem, b2, b4, b5, b6]
            have d3 : w3.cell? ⟨w.heap.size + 1, 3, none⟩ = some (.int .i64 2) := by rw [hB]; simp [go_sem, b3, b4, b5, b6]
            have d4 : w3.cell? ⟨w.heap.size + 1, 4, none⟩ = some (.int .i64 m0) := by rw [hB]; simp [go_sem, b4, b4, b5, b6]
            have d5 : w3.cell? ⟨w.heap.size + 1, 5, none⟩ = some (.int .i64 m1) := by rw [hB]; simp [go_sem, b5, b4, b5, b6]
            have d6 : w3.cell? ⟨w.heap.size + 1, 6, none⟩ = some (.int .i64 m2) := by rw [hB]; simp [go_sem, b6, b4, b5, b6]
            have d7 : w3.cell? ⟨w.heap.size + 1, 7, none⟩ = some (.int .i64 av) := by rw [hB]; simp [go_sem, b7, b4, b5, b6]
            have d8 : w3.cell? ⟨w.heap.size + 1, 8, none⟩ = some (.int .i64 0) := by rw [hB]; simp [go_sem, b8, b4, b5, b6]
            have d9 : w3.cell? ⟨w.heap.size + 1, 9, none⟩ = some (.int .i64 0) := by rw [hB]; simp [go_sem, b9, b4, b5, b6]
            have d10 : w3.cell? ⟨w.heap.size + 1, 10, none⟩ = some (.int .i64 0) := by rw [hB]; simp [go_sem, b10, b4, b5, b6]
            have zB3 : ∀ o, w3.frozen? ⟨w.heap.size + 1, o, none⟩ = false := by intro o; rw [yB]; simp [go_sem, zB2]
            have fA3 : ∀ o, w3.cell? ⟨w.heap.size, o, none⟩ = (w.alloc (.cells #[.int .i64 0, .int .i64 0, .int .i64 0, .int .i64 0, .int .i64 0, .int .i64 0, .int .i64 0, .int .i64 0, .int .i64 0, .int .i64 0, .int .i64 0] 38)).cell? ⟨w.heap.size, o, none⟩ := by intro o; rw [hA]; simp [go_sem, fA2]
            have zA3 : ∀ o, w3.frozen? ⟨w.heap.size, o, none⟩ = false := by intro o; rw [yA]; simp [go_sem, zA2]
            have hs3 : w.heap.size + 1 < w3.heap.size := by have := k3.size; simp [World.setCell] at this; omega
            have K3 : Hid (Nw w w3) := (((K2.out.setCell (p := ⟨w.heap.size + 1, 4, none⟩) (Or.inl (by simp)) _).setCell (p := ⟨w.heap.size + 1, 5, none⟩) (Or.inl (by simp)) _).setCell (p := ⟨w.heap.size + 1, 6, none⟩) (Or.inl (by simp)) _).trans k3
            clear k3 C2 h3 fA2 zA2 zB2 hA hB yA yB b0 b1 b2 b3 b4 b5 b6 b7 b8 b9 b10
            have HW : Hid ((((w3.setCell ⟨w.heap.size + 1, 8, none⟩ (.int .i64 n0)).setCell ⟨w.heap.size + 1, 9, none⟩ (.int .i64 n1)).setCell ⟨w.heap.size + 1, 10, none⟩ (.int .i64 n2)).rangeAt (w.heap.size + 1) 0 (c11 l0 l1 l2 2 m0 m1 m2 av n0 n1 n2)) := range11 (by simp [go_sem, *]) (by simp [go_sem, *]) (by simp [go_sem, *]) (by simp [go_sem, *]) (by simp [go_sem, *]) (by simp [go_sem, *]) (by simp [go_sem, *]) (by simp [go_sem, *]) (by simp [go_sem, *]) (by simp [go_sem, *]) (by simp [go_sem, *])
            have HTH : Hid ((((w3.setCell ⟨w.heap.size + 1, 8, none⟩ (.int .i64 n0)).setCell ⟨w.heap.size + 1, 9, none⟩ (.int .i64 n1)).setCell ⟨w.heap.size + 1, 10, none⟩ (.int .i64 n2)).there w.heap.size 0 (c11 l0 l1 l2 2 m0 m1 m2 av n0 n1 n2).toArray.size) := by
              intro j hj
              have hj' : j < 11 := by simpa [c11] using hj
              refine ⟨?_, by simp [go_sem, zA3]⟩
              rw [Nat.zero_add]
              simp [go_sem, fA3]
              omega
            obtain ⟨dd, hu, hd⟩ := Option.map_eq_some_iff.1 Tryz.row38
            have HU : Hid (Tryz.prog.underlying 38 = some dd) := hu
            have HD : Hid (dd.isRow = true) := hd
            clear hu hd
            go_wp2_with (first
              | (with_reducible (show Go.wpList _ _ _ ({ dst := _, op := Op.load 38 _, type := _, pos := _, after := _, guard := _ } :: _) _ _); refine wpList_load_mid rfl 38 _ rfl (w.heap.size + 1) 0 rfl (c11 l0 l1 l2 2 m0 m1 m2 av n0 n1 n2) dd HW.out HU.out HD.out (c11_size _ _ _ _ _ _ _ _ _ _ _) ?_)
              | (with_reducible (show Go.wpList _ _ _ ({ dst := _, op := Op.store 38 _ _, type := _, pos := _, after := _, guard := _ } :: _) _ _); refine wpList_store_mid rfl 38 _ _ rfl w.heap.size 0 (c11 l0 l1 l2 2 m0 m1 m2 av n0 n1 n2).toArray rfl rfl HTH.out (by simpa using c11_size _ _ _ _ _ _ _ _ _ _ _) (all_oneCell_toArray (c11_one _ _ _ _ _ _ _ _ _ _ _)) ?_)
              | fail)
            refine bodyPost_ret (v := .agg (c11 l0 l1 l2 2 m0 m1 m2 av n0 n1 n2).toArray) (results_cell Tryz.results244 _ _ _ ⟨w.heap.size, 0, none⟩ rfl _ (run_loadVar_mid _ w.heap.size 0 38 (c11 l0 l1 l2 2 m0 m1 m2 av n0 n1 n2) dd (by simpa using World.rangeAt_setCells_same (((w3.setCell ⟨w.heap.size + 1, 8, none⟩ (.int .i64 n0)).setCell ⟨w.heap.size + 1, 9, none⟩ (.int .i64 n1)).setCell ⟨w.heap.size + 1, 10, none⟩ (.int .i64 n2)) w.heap.size 0 (c11 l0 l1 l2 2 m0 m1 m2 av n0 n1 n2) (by simpa using HTH.out)) HU.out HD.out (c11_size _ _ _ _ _ _ _ _ _ _ _))) rfl ?_
            exact ⟨rfl, nw_setCells w.heap.size (Nat.le_refl _) (((K3.out.setCell (p := ⟨w.heap.size + 1, 8, none⟩) (Or.inl (by simp)) _).setCell (p := ⟨w.heap.size + 1, 9, none⟩) (Or.inl (by simp)) _).setCell (p := ⟨w.heap.size + 1, 10, none⟩) (Or.inl (by simp)) _) _ _⟩
          · obtain ⟨rfl, rfl, rfl⟩ : n0 = 0 ∧ n1 = 0 ∧ n2 = 0 := by
              have := h4 (by omega)
              simpa [tm0] using this
            have HW : Hid ((((w2.setCell ⟨w.heap.size + 1, 4, none⟩ (.int .i64 m0)).setCell ⟨w.heap.size + 1, 5, none⟩ (.int .i64 m1)).setCell ⟨w.heap.size + 1, 6, none⟩ (.int .i64 m2)).rangeAt (w.heap.size + 1) 0 (c11 l0 l1 l2 2 m0 m1 m2 av 0 0 0)) := range11 (by simp [go_sem, *]) (by simp [go_sem, *]) (by simp [go_sem, *]) (by simp [go_sem, *]) (by simp [go_sem, *]) (by simp [go_sem, *]) (by simp [go_sem, *]) (by simp [go_sem, *]) (by simp [go_sem, *]) (by simp [go_sem, *]) (by simp [go_sem, *])
            have HTH : Hid ((((w2.setCell ⟨w.heap.size + 1, 4, none⟩ (.int .i64 m0)).setCell ⟨w.heap.size + 1, 5, none⟩ (.int .i64 m1)).setCell ⟨w.heap.size + 1, 6, none⟩ (.int .i64 m2)).there w.heap.size 0 (c11 l0 l1 l2 2 m0 m1 m2 av 0 0 0).toArray.size) := by
              intro j hj
              have hj' : j < 11 := by simpa [c11] using hj
              refine ⟨?_, by simp [go_sem, zA2]⟩
              rw [Nat.zero_add]
              simp [go_sem, fA2]
              omega
            obtain ⟨dd, hu, hd⟩ := Option.map_eq_some_iff.1 Tryz.row38
            have HU : Hid (Tryz.prog.underlying 38 = some dd) := hu
            have HD : Hid (dd.isRow = true) := hd
            clear hu hd
            go_wp2_with (first
              | (with_reducible (show Go.wpList _ _ _ ({ dst := _, op := Op.load 38 _, type := _, pos := _, after := _, guard := _ } :: _) _ _); refine wpList_load_mid rfl 38 _ rfl (w.heap.size + 1) 0 rfl (c11 l0 l1 l2 2 m0 m1 m2 av 0 0 0) dd HW.out HU.out HD.out (c11_size _ _ _ _ _ _ _ _ _ _ _) ?_)
              | (with_reducible (show Go.wpList _ _ _ ({ dst := _, op := Op.store 38 _ _, type := _, pos := _, after := _, guard := _ } :: _) _ _); refine wpList_store_mid rfl 38 _ _ rfl w.heap.size 0 (c11 l0 l1 l2 2 m0 m1 m2 av 0 0 0).toArray rfl rfl HTH.out (by simpa using c11_size _ _ _ _ _ _ _ _ _ _ _) (all_oneCell_toArray (c11_one _ _ _ _ _ _ _ _ _ _ _)) ?_)
              | fail)
            refine bodyPost_ret (v := .agg (c11 l0 l1 l2 2 m0 m1 m2 av 0 0 0).toArray) (results_cell Tryz.results244 _ _ _ ⟨w.heap.size, 0, none⟩ rfl _ (run_loadVar_mid _ w.heap.size 0 38 (c11 l0 l1 l2 2 m0 m1 m2 av 0 0 0) dd (by simpa using World.rangeAt_setCells_same (((w2.setCell ⟨w.heap.size + 1, 4, none⟩ (.int .i64 m0)).setCell ⟨w.heap.size + 1, 5, none⟩ (.int .i64 m1)).setCell ⟨w.heap.size + 1, 6, none⟩ (.int .i64 m2)) w.heap.size 0 (c11 l0 l1 l2 2 m0 m1 m2 av 0 0 0) (by simpa using HTH.out)) HU.out HD.out (c11_size _ _ _ _ _ _ _ _ _ _ _))) rfl ?_
            exact ⟨rfl, nw_setCells w.heap.size (Nat.le_refl _) (((K2.out.setCell (p := ⟨w.heap.size + 1, 4, none⟩) (Or.inl (by simp)) _).setCell (p := ⟨w.heap.size + 1, 5, none⟩) (Or.inl (by simp)) _).setCell (p := ⟨w.heap.size + 1, 6, none⟩) (Or.inl (by simp)) _) _ _⟩
set_option maxRecDepth 100000 in
set_option maxHeartbeats 2000000 in
theorem testC_35 (P : CuP) (L : List Tok) (lo hi : Nat) (a b : List Tok) (p : Nat) (rest : List Tok) (av : Int) (ee : Nat) (tl tr tm : Tm) (w : World) (h : Cu w P L) (ha : ∀ c ∈ a, TmC c.1) (hS : Sub L lo (a ++ ((35 : Int), p) :: rest)) (hhi : hi = lo + a.length + 1 + rest.length)
    (hT : Tail b av rest ee)
    (h1 : ∀ w', Cu w' P L → Calls Tryz.prog 252 #[.pointer (some ⟨P.C, 0, none⟩), .int .i64 lo, .int .i64 ((lo + a.length : Nat) : Int)] w' fun e w'' => e = .returned (tmV tl) ∧ Nw w' w'')
    (h2 : ∀ w', Cu w' P L → Calls Tryz.prog 252 #[.pointer (some ⟨P.C, 0, none⟩), .int .i64 ((lo + a.length + 1 : Nat) : Int), .int .i64 ((lo + a.length + 1 + ee : Nat) : Int)] w' fun e w'' => e = .returned (tmV tr) ∧ Nw w' w'')
    (h3 : lo + a.length + 1 + ee < hi → ∀ w', Cu w' P L → Calls Tryz.prog 252 #[.pointer (some ⟨P.C, 0, none⟩), .int .i64 ((lo + a.length + 1 + ee + 1 : Nat) : Int), .int .i64 hi] w' fun e w'' => e = .returned (tmV tm) ∧ Nw w' w'')
    (h4 : lo + a.length + 1 + ee = hi → tm = tm0) :
    Calls Tryz.prog 244 #[.pointer (some ⟨P.C, 0, none⟩), .int .i64 lo, .int .i64 hi] w fun e w' => e = .returned (.agg (tsV ⟨tl, 3, tr, av, tm⟩)) ∧ Nw w w' := by
  have H : Hid (Cu w P L) := h
  have hlen := h.len
  have hle := hS.le (by simp; omega)
  simp only [List.length_append, List.length_cons] at hle
  have HS : Hid (Sub L lo (a ++ ((35 : Int), p) :: rest)) := hS
  have hLr : L[lo + a.length]? = some (35, p) := (hS.right rfl).head
  have HS2 : Hid (Sub L (lo + a.length + 1) rest) := (hS.right rfl).tail
  have HC : Hid (∀ x y, Cu (tW w x y) P L) := fun x y => H.out.nw (nw_tW w x y)
  have hrl : ee ≤ rest.length := by
    rcases hT.2 with ⟨e1, _, e2⟩ | ⟨d, q, m, _, _, e1, _, e2⟩ <;> rw [e1, e2] <;> simp
  have HH : Hid (hi = lo + a.length + 1 + rest.length) := hhi
  have hhl : hi ≤ 1000 := by omega
  have hhl3 : hi ≤ L.length := by omega
  have hlL : lo + a.length < L.length := by omega
  have hhl2 : lo + a.length < hi := by omega
  clear hS h hhi hle
  obtain ⟨C, gs, cs, ga, ca, T⟩ := P
  go_enter Tryz.func244, Tryz.ntmps244
  go_wp2
  go_loopg [8] (a.length + 1) (fun m v8 wr => ∃ k : Nat, v8 = .int .i64 ((lo + k : Nat) : Int) ∧ m = a.length + 1 - k ∧ k ≤ a.length ∧ wr = tW w 0 0)
  case atStart => exact ⟨0, by simp, by omega, by omega, rfl⟩
  case round =>
    obtain ⟨k, rfl, hm, hk, rfl⟩ := hrel
    have c0 := (HC.out 0 0).c0
    simp only at c0
    by_cases hk' : k < a.length
    · obtain ⟨x, hx⟩ : ∃ x, a[k]? = some x := ⟨a[k], by simp [hk']⟩
      have hLx : L[lo + k]? = some x := HS.out k x (by rw [List.getElem?_append_left hk']; exact hx)
      have cb := (HC.out 0 0).bs (lo + k) x hLx
      obtain ⟨r0, r1⟩ := H.out.rg x (List.mem_of_getElem? hLx)
      have hxr : isRelB x.1 = false := isRel_no (by have := (ha x (List.mem_of_getElem? hx)).range; omega)
      simp only at cb
      clear hx hLx
      generalize hW : tW w 0 0 = W at *
      have HW : Hid (tW w 0 0 = W) := hW
      clear hW
      go_wp2_with (go_at_call 229; refine (isRel_any x.1 _).mono ?_; rw [hxr]; rintro e w1 ⟨rfl, rfl⟩)
      go_roundg (a.length + 1 - (k + 1))
      case measure => omega
      case rel => exact ⟨k + 1, by push_cast; simp; omega, rfl, by omega, rfl⟩
    · have ek : k = a.length := by omega
      subst ek
      have cb := (HC.out 0 0).bs _ _ hLr
      simp only at cb
      unfold tW at c0 cb ⊢
      go_wp2_with (go_at_call 229; refine (isRel_any _ _).mono ?_; rw [show isRelB 35 = true from rfl]; rintro e w1 ⟨rfl, rfl⟩)
      go_loopg [9, 10] (rest.length + 1) (fun m v9 v10 wr => ∃ k : Nat, v10 = .int .i64 ((lo + a.length + 1 + k : Nat) : Int) ∧ m = rest.length + 1 - k ∧ k ≤ rest.length ∧ Lp w 3 av b rest (lo + a.length + 1) hi k v9 wr)
      case atStart => exact ⟨0, by push_cast; simp, by omega, by omega, Or.inl ⟨by omega, rfl, rfl⟩⟩
      case round =>
        obtain ⟨k, rfl, hm2, hk2, hlp⟩ := hrel
        by_cases hk3 : k < rest.length
        · obtain ⟨x, hx⟩ : ∃ x, rest[k]? = some x := ⟨rest[k], by simp [hk3]⟩
          have hLx := HS2.out k x hx
          obtain ⟨r0, r1⟩ := H.out.rg x (List.mem_of_getElem? hLx)
          have hidx : lo + a.length + 1 + k < L.length := (List.getElem?_eq_some_iff.1 hLx).1
          have hih : lo + a.length + 1 + k < hi := by rw [HH.out]; omega
          by_cases hkb : k = b.length
          · subst hkb
            obtain ⟨d, q, m, hda, hmm, hre, hav, hee⟩ : ∃ d q m, isArithB d = true ∧ (∀ c ∈ m, TmC c.1) ∧ rest = b ++ (d, q) :: m ∧ av = arithV d ∧ ee = b.length := by
              rcases hT.2 with ⟨e1, _, _⟩ | hh
              · rw [e1] at hk3; omega
              · exact hh
            have hxd : x = (d, q) := by
              rw [hre, List.getElem?_append_right (by omega)] at hx
              simp at hx; exact hx.symm
            subst hxd
            obtain ⟨rfl, rfl⟩ : u9 = .int .i64 hi ∧ wr = tW w 3 0 := by
              rcases hlp with ⟨e1, e2, e3⟩ | ⟨e1, e2, e3⟩
              · exact ⟨e2, e3⟩
              · omega
            have d0 := (HC.out 3 0).c0
            have cb2 := (HC.out 3 0).bs _ _ hLx
            simp only at d0 cb2
            have hlp4 : Hid (∀ wr', wr' = tW w 3 av → Lp w 3 av b rest (lo + a.length + 1) hi (b.length + 1) (.int .i64 ((lo + a.length + 1 + b.length : Nat) : Int)) wr') := fun wr' e => Or.inr ⟨by omega, rfl, e⟩
            have HAV : Hid (av = arithV d) := hav
            have hd3 : d = 43 ∨ d = 45 ∨ d = 42 := (isArith_iff' d).1 hda
            clear hx hLx hlp c0 cb hre hav hee hda hmm
            unfold tW at d0 cb2 ⊢
            rcases hd3 with rfl | rfl | rfl
            all_goals
              go_wp2
              go_roundg (rest.length + 1 - (b.length + 1))
              case measure => omega
              case rel => exact ⟨b.length + 1, by push_cast; simp; omega, rfl, by omega, hlp4.out _ (by rw [HAV.out]; rfl)⟩
          · have hxt : TmC x.1 := by
              rcases hT.2 with ⟨e1, _, _⟩ | ⟨d, q, m, _, hmm, e1, _, _⟩
              · rw [e1] at hx; exact hT.1 x (List.mem_of_getElem? hx)
              · rw [e1] at hx
                by_cases hlt : k < b.length
                · rw [List.getElem?_append_left hlt] at hx; exact hT.1 x (List.mem_of_getElem? hx)
                · rw [List.getElem?_append_right (by omega)] at hx
                  have : k - b.length = (k - b.length - 1) + 1 := by omega
                  rw [this] at hx
                  simp at hx
                  exact hmm x (List.mem_of_getElem? hx)
            obtain ⟨q1, q2, q3⟩ := isArith_no hxt
            have hlp2 : ∃ ar, wr = tW w 3 ar ∧ (u9 = .int .i64 hi ∨ u9 = .int .i64 ((lo + a.length + 1 + b.length : Nat) : Int)) ∧ Lp w 3 av b rest (lo + a.length + 1) hi (k + 1) u9 wr := by
              rcases hlp with ⟨e1, e2, e3⟩ | ⟨e1, e2, e3⟩
              · exact ⟨0, e3, Or.inl e2, Or.inl ⟨by omega, e2, e3⟩⟩
              · exact ⟨av, e3, Or.inr e2, Or.inr ⟨by omega, e2, e3⟩⟩
            obtain ⟨ar, rfl, hu9, hlp3⟩ := hlp2
            have d0 := (HC.out 3 ar).c0
            have cb2 := (HC.out 3 ar).bs _ _ hLx
            simp only at d0 cb2
            have HLP : Hid (Lp w 3 av b rest (lo + a.length + 1) hi (k + 1) u9 (tW w 3 ar)) := hlp3
            clear hx hLx hlp hlp3 c0 cb
            generalize tW w 3 ar = W at *
            go_wp2
            go_roundg (rest.length + 1 - (k + 1))
            case measure => omega
            case rel => exact ⟨k + 1, by push_cast; simp; omega, rfl, by omega, HLP.out⟩
        · have hkr : k = rest.length := by omega
          have hcase : ∃ ar9, wr = tW w 3 av ∧ u9 = .int .i64 ((lo + a.length + 1 + ar9 : Nat) : Int) ∧ ar9 = ee := by
            rcases hT.2 with ⟨e1, e2, e3⟩ | ⟨d, q, m, _, _, e1, e2, e3⟩
            · rcases hlp with ⟨g1, g2, g3⟩ | ⟨g1, g2, g3⟩
              · refine ⟨ee, by rw [g3, e2], ?_, rfl⟩
                rw [g2, HH.out, e3, ← e1]
              · rw [hkr, e1] at g1; omega
            · rcases hlp with ⟨g1, g2, g3⟩ | ⟨g1, g2, g3⟩
              · exfalso; rw [hkr, e1, List.length_append, List.length_cons] at g1; omega
              · exact ⟨ee, g3, by rw [g2, e3], rfl⟩
          obtain ⟨ar9, rfl, rfl, rfl⟩ := hcase
          clear hlp hT c0 cb
          have e28 : lo + a.length + 1 + ar9 ≤ hi := by rw [HH.out]; omega
          have hend : ¬ lo + a.length + 1 + k < hi := by rw [HH.out]; omega
          have C0 : Hid (Cu (tW w 3 av) ⟨C, gs, cs, ga, ca, T⟩ L) := HC.out _ _
          unfold tW at C0 ⊢
          go_wp2_with fail
          refine (h1 _ C0.out).mono ?_
          obtain ⟨l0, l1, l2⟩ := tl
          obtain ⟨m0, m1, m2⟩ := tr
          obtain ⟨n0, n1, n2⟩ := tm
          unfold tmV at h2 h3 ⊢
          simp only at h2 h3 ⊢
          rintro e w1 ⟨rfl, k1⟩
          have K1 : Hid (Nw w w1) := (((Kp.refl _ w).alloc _).alloc _).trans k1
          obtain ⟨fA, zA⟩ := k1.sm (B := w.heap.size) (by simp; omega) (fun h => h)
          obtain ⟨fB, zB⟩ := k1.sm (B := w.heap.size + 1) (by simp) (fun h => h)
          have hs1 : w.heap.size + 1 < w1.heap.size := Nat.lt_of_lt_of_le (by simp) k1.size
          have C1 : Hid (Cu (((w1.setCell ⟨w.heap.size + 1, 0, none⟩ (.int .i64 l0)).setCell ⟨w.heap.size + 1, 1, none⟩ (.int .i64 l1)).setCell ⟨w.heap.size + 1, 2, none⟩ (.int .i64 l2)) ⟨C, gs, cs, ga, ca, T⟩ L) :=
            H.out.nw (((K1.out.setCell (p := ⟨w.heap.size + 1, 0, none⟩) (Or.inl (by simp)) _).setCell (p := ⟨w.heap.size + 1, 1, none⟩) (Or.inl (by simp)) _).setCell (p := ⟨w.heap.size + 1, 2, none⟩) (Or.inl (by simp)) _)
          clear k1 C0 h1
          go_wp2_with fail
          refine (h2 _ C1.out).mono ?_
          rintro e w2 ⟨rfl, k2⟩
          obtain ⟨gA, yA⟩ := k2.sm (B := w.heap.size) (by simp [World.setCell]; omega) (fun h => h)
          obtain ⟨gB, yB⟩ := k2.sm (B := w.heap.size + 1) (by simp [World.setCell]; omega) (fun h => h)
          have b0 : w2.cell? ⟨w.heap.size + 1, 0, none⟩ = some (.int .i64 l0) := by rw [gB]; simp [go_sem, fB]
          have b1 : w2.cell? ⟨w.heap.size + 1, 1, none⟩ = some (.int .i64 l1) := by rw [gB]; simp [go_sem, fB]
          have b2 : w2.cell? ⟨w.heap.size + 1, 2, none⟩ = some (.int .i64 l2) := by rw [gB]; simp [go_sem, fB]
          have b3 : w2.cell? ⟨w.heap.size + 1, 3, none⟩ = some (.int .i64 3) := by rw [gB]; simp [go_sem, fB]
          have b4 : w2.cell? ⟨w.heap.size + 1, 4, none⟩ = some (.int .i64 0) := by rw [gB]; simp [go_sem, fB]
          have b5 : w2.cell? ⟨w.heap.size + 1, 5, none⟩ = some (.int .i64 0) := by rw [gB]; simp [go_sem, fB]
          have b6 : w2.cell? ⟨w.heap.size + 1, 6, none⟩ = some (.int .i64 0) := by rw [gB]; simp [go_sem, fB]
          have b7 : w2.cell? ⟨w.heap.size + 1, 7, none⟩ = some (.int .i64 av) := by rw [gB]; simp [go_sem, fB]
          have b8 : w2.cell? ⟨w.heap.size + 1, 8, none⟩ = some (.int .i64 0) := by rw [gB]; simp [go_sem, fB]
          have b9 : w2.cell? ⟨w.heap.size + 1, 9, none⟩ = some (.int .i64 0) := by rw [gB]; simp [go_sem, fB]
          have b10 : w2.cell? ⟨w.heap.size + 1, 10, none⟩ = some (.int .i64 0) := by rw [gB]; simp [go_sem, fB]
          have zB2 : ∀ o, w2.frozen? ⟨w.heap.size + 1, o, none⟩ = false := by intro o; rw [yB]; simp [go_sem, zB]
          have fA2 : ∀ o, w2.cell? ⟨w.heap.size, o, none⟩ = (w.alloc (.cells #[.int .i64 0, .int .i64 0, .int .i64 0, .int .i64 0, .int .i64 0, .int .i64 0, .int .i64 0, .int .i64 0, .int .i64 0, .int .i64 0, .int .i64 0] 38)).cell? ⟨w.heap.size, o, none⟩ := by intro o; rw [gA]; simp [go_sem, fA]
          have zA2 : ∀ o, w2.frozen? ⟨w.heap.size, o, none⟩ = false := by intro o; rw [yA]; simp [go_sem, zA]
          have hs2 : w.heap.size + 1 < w2.heap.size := by have := k2.size; simp [World.setCell] at this; omega
          have K2 : Hid (Nw w w2) := (((K1.out.setCell (p := ⟨w.heap.size + 1, 0, none⟩) (Or.inl (by simp)) _).setCell (p := ⟨w.heap.size + 1, 1, none⟩) (Or.inl (by simp)) _).setCell (p := ⟨w.heap.size + 1, 2, none⟩) (Or.inl (by simp)) _).trans k2
          clear k2 C1 h2 fA fB zA zB gA gB yA yB
          by_cases hmore : lo + a.length + 1 + ar9 < hi
          · have C2 : Hid (Cu (((w2.setCell ⟨w.heap.size + 1, 4, none⟩ (.int .i64 m0)).setCell ⟨w.heap.size + 1, 5, none⟩ (.int .i64 m1)).setCell ⟨w.heap.size + 1, 6, none⟩ (.int .i64 m2)) ⟨C, gs, cs, ga, ca, T⟩ L) :=
              H.out.nw (((K2.out.setCell (p := ⟨w.heap.size + 1, 4, none⟩) (Or.inl (by simp)) _).setCell (p := ⟨w.heap.size + 1, 5, none⟩) (Or.inl (by simp)) _).setCell (p := ⟨w.heap.size + 1, 6, none⟩) (Or.inl (by simp)) _)
            go_wp2_with fail
            refine (h3 hmore _ C2.out).mono ?_
            rintro e w3 ⟨rfl, k3⟩
            obtain ⟨hA, yA⟩ := k3.sm (B := w.heap.size) (by simp [World.setCell]; omega) (fun h => h)
            obtain ⟨hB, yB⟩ := k3.sm (B := w.heap.size + 1) (by simp [World.setCell]; omega) (fun h => h)
            have d0 : w3.cell? ⟨w.heap.size + 1, 0, none⟩ = some (.int .i64 l0) := by rw [hB]; simp [go_sem, b0, b4, b5, b6]
            have d1 : w3.cell? ⟨w.heap.size + 1, 1, none⟩ = some (.int .i64 l1) := by rw [hB]; simp [go_sem, b1, b4, b5, b6]
            have d2 : w3.cell? ⟨w.heap.size + 1, 2, none⟩ = some (.int .i64 l2) := by rw [hB]; simp [go_sem, b2, b4, b5, b6]
            have d3 : w3.cell? ⟨w.heap.size + 1, 3, none⟩ = some (.int .i64 3) := by rw [hB]; simp [go_sem, b3, b4, b5, b6]
            have d4 : w3.cell? ⟨w.heap.size + 1, 4, none⟩ = some (.int .i64 m0) := by rw [hB]; simp [go_sem, b4, b4, b5, b6]
            have d5 : w3.cell? ⟨w.heap.size + 1, 5, none⟩ = some (.int .i64 m1) := by rw [hB]; simp [go_sem, b5, b4, b5, b6]
            have d6 : w3.cell? ⟨w.heap.size + 1, 6, none⟩ = some (.int .i64 m2) := by rw [hB]; simp [go_sem, b6, b4, b5, b6]
            have d7 : w3.cell? ⟨w.heap.size + 1, 7, none⟩ = some (.int .i64 av) := by rw [hB]; simp [go_sem, b7, b4, b5, b6]
            have d8 : w3.cell? ⟨w.heap.size + 1, 8, none⟩ = some (.int .i64 0) := by rw [hB]; simp [go_sem, b8, b4, b5, b6]
            have d9 : w3.cell? ⟨w.heap.size + 1, 9, none⟩ = some (.int .i64 0) := by rw [hB]; simp [go_sem, b9, b4, b5, b6]
            have d10 : w3.cell? ⟨w.heap.size + 1, 10, none⟩ = some (.int .i64 0) := by rw [hB]; simp [go_sem, b10, b4, b5, b6]
            have zB3 : ∀ o, w3.frozen? ⟨w.heap.size + 1, o, none⟩ = false := by intro o; rw [yB]; simp [go_sem, zB2]
            have fA3 : ∀ o, w3.cell? ⟨w.heap.size, o, none⟩ = (w.alloc (.cells #[.int .i64 0, .int .i64 0, .int .i64 0, .int .i64 0, .int .i64 0, .int .i64 0, .int .i64 0, .int .i64 0, .int .i64 0, .int .i64 0, .int .i64 0] 38)).cell? ⟨w.heap.size, o, none⟩ := by intro o; rw [hA]; simp [go_sem, fA2]
            have zA3 : ∀ o, w3.frozen? ⟨w.heap.size, o, none⟩ = false := by intro o; rw [yA]; simp [go_sem, zA2]
            have hs3 : w.heap.size + 1 < w3.heap.size := by have := k3.size; simp [World.setCell] at this; omega
            have K3 : Hid (Nw w w3) := (((K2.out.setCell (p := ⟨w.heap.size + 1, 4, none⟩) (Or.inl (by simp)) _).setCell (p := ⟨w.heap.size + 1, 5, none⟩) (Or.inl (by simp)) _).setCell (p := ⟨w.heap.size + 1, 6, none⟩) (Or.inl (by simp)) _).trans k3
            clear k3 C2 h3 fA2 zA2 zB2 hA hB yA yB b0 b1 b2 b3 b4 b5 b6 b7 b8 b9 b10
            have HW : Hid ((((w3.setCell ⟨w.heap.size + 1, 8, none⟩ (.int .i64 n0)).setCell ⟨w.heap.size + 1, 9, none⟩ (.int .i64 n1)).setCell ⟨w.heap.size + 1, 10, none⟩ (.int .i64 n2)).rangeAt (w.heap.size + 1) 0 (c11 l0 l1 l2 3 m0 m1 m2 av n0 n1 n2)) := range11 (by simp [go_sem, *]) (by simp [go_sem, *]) (by simp [go_sem, *]) (by simp [go_sem, *]) (by simp [go_sem, *]) (by simp [go_sem, *]) (by simp [go_sem, *]) (by simp [go_sem, *]) (by simp [go_sem, *]) (by simp [go_sem, *]) (by simp [go_sem, *])
            have HTH : Hid ((((w3.setCell ⟨w.heap.size + 1, 8, none⟩ (.int .i64 n0)).setCell ⟨w.heap.size + 1, 9, none⟩ (.int .i64 n1)).setCell ⟨w.heap.size + 1, 10, none⟩ (.int .i64 n2)).there w.heap.size 0 (c11 l0 l1 l2 3 m0 m1 m2 av n0 n1 n2).toArray.size) := by
              intro j hj
              have hj' : j < 11 := by simpa [c11] using hj
              refine ⟨?_, by simp [go_sem, zA3]⟩
              rw [Nat.zero_add]
              simp [go_sem, fA3]
              omega
            obtain ⟨dd, hu, hd⟩ := Option.map_eq_some_iff.1 Tryz.row38
            have HU : Hid (Tryz.prog.underlying 38 = some dd) := hu
            have HD : Hid (dd.isRow = true) := hd
            clear hu hd
            go_wp2_with (first
              | (with_reducible (show Go.wpList _ _ _ ({ dst := _, op := Op.load 38 _, type := _, pos := _, after := _, guard := _ } :: _) _ _); refine wpList_load_mid rfl 38 _ rfl (w.heap.size + 1) 0 rfl (c11 l0 l1 l2 3 m0 m1 m2 av n0 n1 n2) dd HW.out HU.out HD.out (c11_size _ _ _ _ _ _ _ _ _ _ _) ?_)
              | (with_reducible (show Go.wpList _ _ _ ({ dst := _, op := Op.store 38 _ _, type := _, pos := _, after := _, guard := _ } :: _) _ _); refine wpList_store_mid rfl 38 _ _ rfl w.heap.size 0 (c11 l0 l1 l2 3 m0 m1 m2 av n0 n1 n2).toArray rfl rfl HTH.out (by simpa using c11_size _ _ _ _ _ _ _ _ _ _ _) (all_oneCell_toArray (c11_one _ _ _ _ _ _ _ _ _ _ _)) ?_)
              | fail)
            refine bodyPost_ret (v := .agg (c11 l0 l1 l2 3 m0 m1 m2 av n0 n1 n2).toArray) (results_cell Tryz.results244 _ _ _ ⟨w.heap.size, 0, none⟩ rfl _ (run_loadVar_mid _ w.heap.size 0 38 (c11 l0 l1 l2 3 m0 m1 m2 av n0 n1 n2) dd (by simpa using World.rangeAt_setCells_same (((w3.setCell ⟨w.heap.size + 1, 8, none⟩ (.int .i64 n0)).setCell ⟨w.heap.size + 1, 9, none⟩ (.int .i64 n1)).setCell ⟨w.heap.size + 1, 10, none⟩ (.int .i64 n2)) w.heap.size 0 (c11 l0 l1 l2 3 m0 m1 m2 av n0 n1 n2) (by simpa using HTH.out)) HU.out HD.out (c11_size _ _ _ _ _ _ _ _ _ _ _))) rfl ?_
            exact ⟨rfl, nw_setCells w.heap.size (Nat.le_refl _) (((K3.out.setCell (p := ⟨w.heap.size + 1, 8, none⟩) (Or.inl (by simp)) _).setCell (p := ⟨w.heap.size + 1, 9, none⟩) (Or.inl (by simp)) _).setCell (p := ⟨w.heap.size + 1, 10, none⟩) (Or.inl (by simp)) _) _ _⟩
          · obtain ⟨rfl, rfl, rfl⟩ : n0 = 0 ∧ n1 = 0 ∧ n2 = 0 := by
              have := h4 (by omega)
              simpa [tm0] using this
            have HW : Hid ((((w2.setCell ⟨w.heap.size + 1, 4, none⟩ (.int .i64 m0)).setCell ⟨w.heap.size + 1, 5, none⟩ (.int .i64 m1)).setCell ⟨w.heap.size + 1, 6, none⟩ (.int .i64 m2)).rangeAt (w.heap.size + 1) 0 (c11 l0 l1 l2 3 m0 m1 m2 av 0 0 0)) := range11 (by simp [go_sem, *]) (by simp [go_sem, *]) (by simp [go_sem, *]) (by simp [go_sem, *]) (by simp [go_sem, *]) (by simp [go_sem, *]) (by simp [go_sem, *]) (by simp [go_sem, *]) (by simp [go_sem, *]) (by simp [go_sem, *]) (by simp [go_sem, *])
            have HTH : Hid ((((w2.setCell ⟨w.heap.size + 1, 4, none⟩ (.int .i64 m0)).setCell ⟨w.heap.size + 1, 5, none⟩ (.int .i64 m1)).setCell ⟨w.heap.size + 1, 6, none⟩ (.int .i64 m2)).there w.heap.size 0 (c11 l0 l1 l2 3 m0 m1 m2 av 0 0 0).toArray.size) := by
              intro j hj
              have hj' : j < 11 := by simpa [c11] using hj
              refine ⟨?_, by simp [go_sem, zA2]⟩
              rw [Nat.zero_add]
              simp [go_sem, fA2]
              omega
            obtain ⟨dd, hu, hd⟩ := Option.map_eq_some_iff.1 Tryz.row38
            have HU : Hid (Tryz.prog.underlying 38 = some dd) := hu
            have HD : Hid (dd.isRow = true) := hd
            clear hu hd
            go_wp2_with (first
              | (with_reducible (show Go.wpList _ _ _ ({ dst := _, op := Op.load 38 _, type := _, pos := _, after := _, guard := _ } :: _) _ _); refine wpList_load_mid rfl 38 _ rfl (w.heap.size + 1) 0 rfl (c11 l0 l1 l2 3 m0 m1 m2 av 0 0 0) dd HW.out HU.out HD.out (c11_size _ _ _ _ _ _ _ _ _ _ _) ?_)
              | (with_reducible (show Go.wpList _ _ _ ({ dst := _, op := Op.store 38 _ _, type := _, pos := _, after := _, guard := _ } :: _) _ _); refine wpList_store_mid rfl 38 _ _ rfl w.heap.size 0 (c11 l0 l1 l2 3 m0 m1 m2 av 0 0 0).toArray rfl rfl HTH.out (by simpa using c11_size _ _ _ _ _ _ _ _ _ _ _) (all_oneCell_toArray (c11_one _ _ _ _ _ _ _ _ _ _ _)) ?_)
              | fail)
            refine bodyPost_ret (v := .agg (c11 l0 l1 l2 3 m0 m1 m2 av 0 0 0).toArray) (results_cell Tryz.results244 _ _ _ ⟨w.heap.size, 0, none⟩ rfl _ (run_loadVar_mid _ w.heap.size 0 38 (c11 l0 l1 l2 3 m0 m1 m2 av 0 0 0) dd (by simpa using World.rangeAt_setCells_same (((w2.setCell ⟨w.heap.size + 1, 4, none⟩ (.int .i64 m0)).setCell ⟨w.heap.size + 1, 5, none⟩ (.int .i64 m1)).setCell ⟨w.heap.size + 1, 6, none⟩ (.int .i64 m2)) w.heap.size 0 (c11 l0 l1 l2 3 m0 m1 m2 av 0 0 0) (by simpa using HTH.out)) HU.out HD.out (c11_size _ _ _ _ _ _ _ _ _ _ _))) rfl ?_
            exact ⟨rfl, nw_setCells w.heap.size (Nat.le_refl _) (((K2.out.setCell (p := ⟨w.heap.size + 1, 4, none⟩) (Or.inl (by simp)) _).setCell (p := ⟨w.heap.size + 1, 5, none⟩) (Or.inl (by simp)) _).setCell (p := ⟨w.heap.size + 1, 6, none⟩) (Or.inl (by simp)) _) _ _⟩
theorem testC_any (P : CuP) (L : List Tok) (lo hi : Nat) (t : Tst) (u : List Tok) (w : World) (h : Cu w P L) (hy : yTst t u) (hS : Sub L lo u) (hhi : hi = lo + u.length) :
    Calls Tryz.prog 244 #[.pointer (some ⟨P.C, 0, none⟩), .int .i64 lo, .int .i64 hi] w fun e w' => e = .returned (.agg (tsV t)) ∧ Nw w w' := by
  obtain ⟨tl, rel, tr, ar, tm⟩ := t
  obtain ⟨a, r, p, b, ya, yb, hr, hrel, hu⟩ := hy
  simp only at ya yb hrel hu
  have ha := (yTm_chars ya).1
  have hb := (yTm_chars yb).1
  have key : ∃ rest, u = a ++ (r, p) :: rest ∧ Tail b ar rest b.length ∧ (rest.length = b.length → tm = tm0) ∧ (b.length < rest.length → ∃ m, yTm tm m ∧ Sub rest (b.length + 1) m ∧ rest.length = b.length + 1 + m.length) ∧ Sub rest 0 b := by
    rcases hu with ⟨e, e1, e2⟩ | ⟨d, q, m, hd, ym, e1, e⟩
    · exact ⟨b, e, ⟨hb, Or.inl ⟨rfl, e1, rfl⟩⟩, fun _ => e2, fun h => by omega, fun k x hk => by simpa using hk⟩
    · refine ⟨b ++ (d, q) :: m, e, ⟨hb, Or.inr ⟨d, q, m, hd, (yTm_chars ym).1, rfl, e1, rfl⟩⟩, fun h => by simp at h, fun _ => ⟨m, ym, ?_, by simp; omega⟩, ?_⟩
      · intro k x hk
        rw [List.getElem?_append_right (by omega)]
        have : b.length + 1 + k - b.length = k + 1 := by omega
        rw [this]; simpa using hk
      · intro k x hk
        rw [Nat.zero_add, List.getElem?_append_left (List.getElem?_eq_some_iff.1 hk).1]; exact hk
  obtain ⟨rest, rfl, hT, h4, h3, hSb⟩ := key
  have hSr : Sub L (lo + a.length + 1) rest := (hS.right rfl).tail
  have hsub : ∀ {m : List Tok} {k : Nat}, Sub rest k m → Sub L (lo + a.length + 1 + k) m := by
    intro m k hm j x hj
    have := hSr (k + j) x (hm j x hj)
    rw [Nat.add_assoc (lo + a.length + 1)]; exact this
  have hhi' : hi = lo + a.length + 1 + rest.length := by rw [hhi]; simp; omega
  have H1 : ∀ w', Cu w' P L → Calls Tryz.prog 252 #[.pointer (some ⟨P.C, 0, none⟩), .int .i64 lo, .int .i64 ((lo + a.length : Nat) : Int)] w' fun e w'' => e = .returned (tmV tl) ∧ Nw w' w'' := fun w' h' => termC_any P L lo _ tl a w' h' ya hS.left rfl
  have H2 : ∀ w', Cu w' P L → Calls Tryz.prog 252 #[.pointer (some ⟨P.C, 0, none⟩), .int .i64 ((lo + a.length + 1 : Nat) : Int), .int .i64 ((lo + a.length + 1 + b.length : Nat) : Int)] w' fun e w'' => e = .returned (tmV tr) ∧ Nw w' w'' := fun w' h' => termC_any P L (lo + a.length + 1) _ tr b w' h' yb (by have := hsub hSb; simpa using this) rfl
  have H3 : lo + a.length + 1 + b.length < hi → ∀ w', Cu w' P L → Calls Tryz.prog 252 #[.pointer (some ⟨P.C, 0, none⟩), .int .i64 ((lo + a.length + 1 + b.length + 1 : Nat) : Int), .int .i64 hi] w' fun e w'' => e = .returned (tmV tm) ∧ Nw w' w'' := by
    intro hlt w' h'
    obtain ⟨m, ym, hm, hml⟩ := h3 (by omega)
    exact termC_any P L (lo + a.length + 1 + b.length + 1) hi tm m w' h' ym (by have := hsub hm; simpa [Nat.add_assoc] using this) (by omega)
  have H4 : lo + a.length + 1 + b.length = hi → tm = tm0 := fun e => h4 (by omega)
  have hr4 := (isRel_iff r).1 hr
  rcases hr4 with rfl | rfl | rfl | rfl
  · rw [hrel]; exact testC_60 P L lo hi a b p rest ar b.length tl tr tm w h ha hS hhi' hT H1 H2 H3 H4
  · rw [hrel]; exact testC_62 P L lo hi a b p rest ar b.length tl tr tm w h ha hS hhi' hT H1 H2 H3 H4
  · rw [hrel]; exact testC_61 P L lo hi a b p rest ar b.length tl tr tm w h ha hS hhi' hT H1 H2 H3 H4
  · rw [hrel]; exact testC_35 P L lo hi a b p rest ar b.length tl tr tm w h ha hS hhi' hT H1 H2 H3 H4
end Go.Proofs.YtcboiapggnmpfaaGreat
