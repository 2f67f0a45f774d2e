/- Plain mathematics, no program: the parts that are made of a tree stand in order, and are not too long. -/
import Derived.Test.YtcboiapggnmpfaaGreatQf
namespace Go.Proofs.YtcboiapggnmpfaaGreat

/-- Part j, in a stretch of parts from k on, with ns steps from m on: b bounds how long it is written out, d how many edges it has. -/
def PtOk (k m ns : Nat) (b d : Nat → Nat) (j : Nat) (x : Pt) : Prop :=
  (x.op = 0 ∧ (m : Int) ≤ x.step ∧ x.step < m + ns ∧ 1 ≤ b j ∧ 5 ≤ d j) ∨
  (x.op = 3 ∧ (k : Int) ≤ x.left ∧ x.left < j ∧ 0 ≤ x.low ∧ x.low ≤ 9 ∧ (x.high = -1 ∨ (1 ≤ x.high ∧ x.high ≤ 9)) ∧ 9 * b x.left.toNat ≤ b j ∧ d x.left.toNat + 5 ≤ d j) ∨
  ((x.op = 1 ∨ x.op = 2) ∧ (k : Int) ≤ x.left ∧ x.left < j ∧ (k : Int) ≤ x.right ∧ x.right < j ∧ b x.left.toNat + b x.right.toNat ≤ b j ∧ d x.left.toNat + d x.right.toNat + 5 ≤ d j)
def Seg (k m : Nat) (l : List Pt) (ns c : Nat) : Prop :=
  0 < l.length ∧ ∃ b d : Nat → Nat, (∀ i x, l[i]? = some x → PtOk k m ns b d (k + i) x) ∧ ∀ i, i < l.length → b (k + i) ≤ c ∧ d (k + i) ≤ 5 * l.length
theorem PtOk.congr {k m ns j : Nat} {x : Pt} {b d b' d' : Nat → Nat} (h : PtOk k m ns b d j x) (hj : k ≤ j) (hb : ∀ i, k ≤ i → i ≤ j → b' i = b i ∧ d' i = d i) : PtOk k m ns b' d' j x := by
  obtain ⟨ej, fj⟩ := hb j hj (Nat.le_refl _)
  rcases h with ⟨h1, h2, h3, h4, h5⟩ | ⟨h1, h2, h3, h4, h5, h6, h7, h8⟩ | ⟨h1, h2, h3, h4, h5, h6, h7⟩
  · exact Or.inl ⟨h1, h2, h3, by rw [ej]; exact h4, by rw [fj]; exact h5⟩
  · obtain ⟨el, fl⟩ := hb x.left.toNat (by omega) (by omega)
    exact Or.inr (Or.inl ⟨h1, h2, h3, h4, h5, h6, by rw [ej, el]; exact h7, by rw [fj, fl]; exact h8⟩)
  · obtain ⟨el, fl⟩ := hb x.left.toNat (by omega) (by omega)
    obtain ⟨er, fr⟩ := hb x.right.toNat (by omega) (by omega)
    exact Or.inr (Or.inr ⟨h1, h2, h3, h4, h5, by rw [ej, el, er]; exact h6, by rw [fj, fl, fr]; exact h7⟩)
theorem PtOk.wide {k m ns k' m' ns' j : Nat} {x : Pt} {b d : Nat → Nat} (h : PtOk k m ns b d j x) (hk : k' ≤ k) (hm : m' ≤ m) (hn : m + ns ≤ m' + ns') : PtOk k' m' ns' b d j x := by
  rcases h with ⟨h1, h2, h3, h4, h5⟩ | ⟨h1, h2, h3, h4, h5, h6, h7, h8⟩ | ⟨h1, h2, h3, h4, h5, h6, h7⟩
  · exact Or.inl ⟨h1, by omega, by omega, h4, h5⟩
  · exact Or.inr (Or.inl ⟨h1, by omega, h3, h4, h5, h6, h7, h8⟩)
  · exact Or.inr (Or.inr ⟨h1, by omega, h3, by omega, h5, h6, h7⟩)
theorem Seg.mono {k m ns c c' : Nat} {l : List Pt} (h : Seg k m l ns c) (hc : c ≤ c') : Seg k m l ns c' := by
  obtain ⟨h0, b, d, h1, h2⟩ := h
  exact ⟨h0, b, d, h1, fun i hi => ⟨Nat.le_trans (h2 i hi).1 hc, (h2 i hi).2⟩⟩
theorem Seg.one (k m : Nat) : Seg k m [⟨0, 0, 0, 0, 0, m⟩] 1 1 := by
  refine ⟨by simp, fun _ => 1, fun _ => 5, ?_, by intro i _; simp⟩
  intro i x hx
  have : i = 0 := by have := (List.getElem?_eq_some_iff.1 hx).1; simp at this; omega
  subst this
  simp at hx; subst hx
  exact Or.inl ⟨rfl, by simp, by simp; omega, by simp, by simp⟩
theorem Seg.rep {k m ns c : Nat} {l : List Pt} {lo hi : Int} (h : Seg k m l ns c) (hlo : 0 ≤ lo ∧ lo ≤ 9) (hhi : hi = -1 ∨ (1 ≤ hi ∧ hi ≤ 9)) : Seg k m (l ++ [⟨3, (k : Int) + l.length - 1, 0, lo, hi, 0⟩]) ns (9 * c) := by
  obtain ⟨h0, b, d, h1, h2⟩ := h
  refine ⟨by simp, fun j => if j < k + l.length then b j else 9 * c, fun j => if j < k + l.length then d j else 5 * (l.length + 1), ?_, ?_⟩
  · intro i x hx
    by_cases hi' : i < l.length
    · rw [List.getElem?_append_left hi'] at hx
      refine (h1 i x hx).congr (by omega) ?_
      intro q _ hq
      exact ⟨if_pos (by omega), if_pos (by omega)⟩
    · have : i = l.length := by have := (List.getElem?_eq_some_iff.1 hx).1; simp at this; omega
      subst this
      simp at hx; subst hx
      have e : ((k : Int) + l.length - 1).toNat = k + (l.length - 1) := by omega
      obtain ⟨g1, g2⟩ := h2 (l.length - 1) (by omega)
      refine Or.inr (Or.inl ⟨rfl, by simp; omega, by simp; omega, hlo.1, hlo.2, hhi, ?_, ?_⟩)
      · simp only [e]; rw [if_pos (by omega), if_neg (by omega)]; omega
      · simp only [e]; rw [if_pos (by omega), if_neg (by omega)]; omega
  · intro i hi'
    simp at hi'
    simp only [List.length_append, List.length_cons, List.length_nil]
    by_cases hi2 : i < l.length
    · obtain ⟨g1, g2⟩ := h2 i hi2
      rw [if_pos (by omega), if_pos (by omega)]; omega
    · rw [if_neg (by omega), if_neg (by omega)]; omega
theorem Seg.two {k m n1 n2 c1 c2 : Nat} {l1 l2 : List Pt} {op : Int} (h : Seg k m l1 n1 c1) (h' : Seg (k + l1.length) (m + n1) l2 n2 c2) (hop : op = 1 ∨ op = 2) :
    Seg k m (l1 ++ (l2 ++ [⟨op, (k : Int) + l1.length - 1, (k : Int) + l1.length + l2.length - 1, 0, 0, 0⟩])) (n1 + n2) (c1 + c2) := by
  obtain ⟨h0, b, d, h1, h2⟩ := h
  obtain ⟨h0', b', d', h1', h2'⟩ := h'
  refine ⟨by simp; omega, fun j => if j < k + l1.length then b j else if j < k + l1.length + l2.length then b' j else c1 + c2, fun j => if j < k + l1.length then d j else if j < k + l1.length + l2.length then d' j else 5 * (l1.length + l2.length + 1), ?_, ?_⟩
  · intro i x hx
    by_cases hi1 : i < l1.length
    · rw [List.getElem?_append_left hi1] at hx
      refine ((h1 i x hx).congr (by omega) ?_).wide (Nat.le_refl _) (Nat.le_refl _) (by omega)
      intro q _ hq
      exact ⟨if_pos (by omega), if_pos (by omega)⟩
    · rw [List.getElem?_append_right (by omega)] at hx
      by_cases hi2 : i - l1.length < l2.length
      · rw [List.getElem?_append_left hi2] at hx
        have e : k + i = k + l1.length + (i - l1.length) := by omega
        rw [e]
        refine ((h1' _ x hx).congr (by omega) ?_).wide (by omega) (by omega) (by omega)
        intro q hq0 hq
        refine ⟨?_, ?_⟩
        · show (if q < k + l1.length then b q else if q < k + l1.length + l2.length then b' q else c1 + c2) = b' q
          rw [if_neg (by omega), if_pos (by omega)]
        · show (if q < k + l1.length then d q else if q < k + l1.length + l2.length then d' q else 5 * (l1.length + l2.length + 1)) = d' q
          rw [if_neg (by omega), if_pos (by omega)]
      · have : i = l1.length + l2.length := by
          rw [List.getElem?_append_right (by omega)] at hx
          have := (List.getElem?_eq_some_iff.1 hx).1; simp at this; omega
        subst this
        rw [List.getElem?_append_right (by omega)] at hx
        have e0 : l1.length + l2.length - l1.length - l2.length = 0 := by omega
        rw [e0] at hx
        simp at hx; subst hx
        have e : ((k : Int) + l1.length - 1).toNat = k + (l1.length - 1) := by omega
        have e' : ((k : Int) + l1.length + l2.length - 1).toNat = k + l1.length + (l2.length - 1) := by omega
        obtain ⟨g1, g2⟩ := h2 (l1.length - 1) (by omega)
        obtain ⟨g3, g4⟩ := h2' (l2.length - 1) (by omega)
        refine Or.inr (Or.inr ⟨hop, by simp; omega, by simp; omega, by simp; omega, by simp; omega, ?_, ?_⟩)
        · simp only [e, e']
          rw [if_pos (by omega), if_neg (by omega), if_pos (by omega), if_neg (by omega), if_neg (by omega)]; omega
        · simp only [e, e']
          rw [if_pos (by omega), if_neg (by omega), if_pos (by omega), if_neg (by omega), if_neg (by omega)]; omega
  · intro i hi
    simp only [List.length_append, List.length_cons, List.length_nil] at hi ⊢
    by_cases hi1 : i < l1.length
    · obtain ⟨g1, g2⟩ := h2 i hi1
      rw [if_pos (by omega), if_pos (by omega)]; omega
    · by_cases hi2 : i < l1.length + l2.length
      · obtain ⟨g1, g2⟩ := h2' (i - l1.length) (by omega)
        have e : k + l1.length + (i - l1.length) = k + i := by omega
        rw [e] at g1 g2
        rw [if_neg (by omega), if_pos (by omega), if_neg (by omega), if_pos (by omega)]; omega
      · rw [if_neg (by omega), if_neg (by omega), if_neg (by omega), if_neg (by omega)]; omega
section
variable {α : Type} {pp : α → Nat → Nat → List Pt} {ss : α → List St} {ya : α → List Tok → Prop} {C : Nat}
def Fit (l : List Pt) (s : List St) (u : List Tok) : Prop := l.length + 1 ≤ 2 * u.length ∧ 1 ≤ s.length ∧ s.length ≤ u.length
def AtomSeg (pp : α → Nat → Nat → List Pt) (ss : α → List St) (ya : α → List Tok → Prop) (C : Nat) : Prop := ∀ a u k m, ya a u → Seg k m (pp a k m) (ss a).length (C * (ss a).length) ∧ Fit (pp a k m) (ss a) u
theorem repP_seg (H : AtomSeg pp ss ya C) {x : α × Rep} {u : List Tok} (k m : Nat) (h : yRep ya x u) : Seg k m (repP pp x k m) (ss x.1).length (9 * C * (ss x.1).length) ∧ Fit (repP pp x k m) (ss x.1) u := by
  obtain ⟨a, q⟩ := x
  obtain ⟨v, r, e, h1, h2⟩ := h
  obtain ⟨g1, g2, g3, g4⟩ := H a v k m h1
  subst e
  have key : ∀ lo hi, q = some (lo, hi) → (0 ≤ lo ∧ lo ≤ 9) → (hi = -1 ∨ (1 ≤ hi ∧ hi ≤ 9)) → 1 ≤ r.length → Seg k m (repP pp (a, q) k m) (ss a).length (9 * C * (ss a).length) ∧ Fit (repP pp (a, q) k m) (ss a) (v ++ r) := by
    intro lo hi e h3 h4 h5
    subst e
    refine ⟨?_, ?_, g3, by simp; omega⟩
    · have := g1.rep h3 h4
      rw [← Nat.mul_assoc] at this
      exact this
    · simp [repP]; omega
  rcases h2 with ⟨e1, e2⟩ | ⟨p, e1, e2⟩ | ⟨p, e1, e2⟩ | ⟨p, e1, e2⟩ | ⟨ca, cb, p0, p1, p2, p3, e1, ha, hb, hc, hd, e2⟩
  · simp only at e1
    subst e1; subst e2
    refine ⟨g1.mono ?_, ?_, g3, by simp; omega⟩
    · exact Nat.mul_le_mul_right _ (by omega)
    · simp [repP]; omega
  · exact key 0 (-1) e2 (by omega) (Or.inl rfl) (by rw [e1]; simp)
  · exact key 1 (-1) e2 (by omega) (Or.inl rfl) (by rw [e1]; simp)
  · exact key 0 1 e2 (by omega) (Or.inr (by omega)) (by rw [e1]; simp)
  · have ha' := (isDigit_iff _).1 ha
    have hb' := (isDigit_iff _).1 hb
    exact key _ _ e2 (by omega) (Or.inr (by omega)) (by rw [e1]; simp)
theorem seqP_seg (H : AtomSeg pp ss ya C) : ∀ (xs : List (α × Rep)) (x : α × Rep) (u : List Tok) (k m : Nat), yReps ya (x :: xs) u → Seg k m (seqP pp ss x xs k m) (seqS ss x xs).length (9 * C * (seqS ss x xs).length) ∧ Fit (seqP pp ss x xs k m) (seqS ss x xs) u := by
  intro xs
  induction xs with
  | nil =>
    intro x u k m h
    obtain ⟨v, r, e, h1, h2⟩ := h
    simp only [yReps] at h2
    subst h2
    simp at e; subst e
    exact repP_seg H k m h1
  | cons y ys ih =>
    intro x u k m h
    obtain ⟨v, r, e, h1, h2⟩ := h
    subst e
    obtain ⟨g1, g2, g3, g4⟩ := repP_seg H k m h1
    obtain ⟨f1, f2, f3, f4⟩ := ih y r (k + (repP pp x k m).length) (m + (ss x.1).length) h2
    refine ⟨?_, ?_, ?_, ?_⟩
    · have := g1.two f1 (Or.inl rfl : (1 : Int) = 1 ∨ (1 : Int) = 2)
      rw [← Nat.mul_add] at this
      simpa [seqP, seqS] using this
    · simp [seqP]; omega
    · simp [seqS]; omega
    · simp [seqS]; omega
theorem altP_seg (H : AtomSeg pp ss ya C) : ∀ (ts : List (SeqOf α)) (s : SeqOf α) (v r : List Tok) (k m : Nat), ySeq ya s v → yAlts ya ts r → Seg k m (altP pp ss s ts k m) (altS ss s ts).length (9 * C * (altS ss s ts).length) ∧ Fit (altP pp ss s ts k m) (altS ss s ts) (v ++ r) := by
  intro ts
  induction ts with
  | nil =>
    intro s v r k m h1 h2
    simp only [yAlts] at h2
    subst h2
    rw [List.append_nil]
    exact seqP_seg H _ _ _ k m h1
  | cons t ts ih =>
    intro s v r k m h1 h2
    obtain ⟨p, v', r', e, h3, h4⟩ := h2
    subst e
    obtain ⟨g1, g2, g3, g4⟩ := seqP_seg H _ _ _ k m h1
    obtain ⟨f1, f2, f3, f4⟩ := ih t v' r' (k + (seqP pp ss s.1 s.2 k m).length) (m + (seqS ss s.1 s.2).length) h3 h4
    simp only [List.length_append] at f2 f3 f4
    refine ⟨?_, ?_, ?_, ?_⟩
    · have := g1.two f1 (Or.inr rfl : (2 : Int) = 1 ∨ (2 : Int) = 2)
      rw [← Nat.mul_add] at this
      simpa [altP, altS] using this
    · simp [altP]; omega
    · simp [altS]; omega
    · simp [altS]; omega
end
theorem ySt_len {s : St} {u : List Tok} (h : ySt s u) : 1 ≤ u.length := by
  obtain ⟨c, a, b, e, _⟩ := h
  subst e; simp
theorem atom_seg : ∀ n : Nat, AtomSeg (atomP n) (atomS n) (yAtom n) (9 ^ n) := by
  intro n
  induction n with
  | zero =>
    intro a u k m h
    have := ySt_len h
    exact ⟨Seg.one k m, by simp [atomP]; omega, Nat.le_refl 1, this⟩
  | succ n ih =>
    intro a u k m h
    cases a with
    | inl s =>
      have := ySt_len h
      refine ⟨(Seg.one k m).mono ?_, by simp [atomP]; omega, by simp [atomS], by simp [atomS]; omega⟩
      simp [atomS]
      exact Nat.pos_of_ne_zero (by simp)
    | inr t =>
      obtain ⟨p, v, q, e, v1, r1, e1, h1, h2⟩ := h
      obtain ⟨g1, g2, g3, g4⟩ := altP_seg ih t.2 t.1 v1 r1 k m h1 h2
      subst e
      rw [← e1] at g2 g4
      refine ⟨?_, ?_, g3, ?_⟩
      · have e : 9 ^ (n + 1) = 9 * 9 ^ n := by rw [Nat.pow_succ, Nat.mul_comm]
        rw [e]; exact g1
      · show (altP (atomP n) (atomS n) t.1 t.2 k m).length + 1 ≤ _
        simp at g2 ⊢; omega
      · show (altS (atomS n) t.1 t.2).length ≤ _
        simp at g4 ⊢; omega
/-- The whole pattern's parts. -/
theorem top_seg {t : AltOf (Atom 8)} {u : List Tok} (h : yAlt (yAtom 8) t u) (hu : u.length ≤ 1000) :
    Seg 0 0 (altP (atomP 8) (atomS 8) t.1 t.2 0 0) (altS (atomS 8) t.1 t.2).length 1000000000000 ∧ Fit (altP (atomP 8) (atomS 8) t.1 t.2 0 0) (altS (atomS 8) t.1 t.2) u := by
  obtain ⟨v, r, e, h1, h2⟩ := h
  obtain ⟨g1, g2⟩ := altP_seg (atom_seg 8) t.2 t.1 v r 0 0 h1 h2
  subst e
  refine ⟨g1.mono ?_, g2⟩
  have := g2.2.2
  have e : 9 * 9 ^ 8 = 387420489 := by decide
  rw [e]
  omega
theorem Seg.wf {l : List Pt} {ns c : Nat} (h : Seg 0 0 l ns c) : WfP l ns := by
  obtain ⟨h0, b, d, h1, h2⟩ := h
  intro i x hx
  have := h1 i x hx
  rw [Nat.zero_add] at this
  rcases this with ⟨h1, h2, h3, h4, h5⟩ | ⟨h1, h2, h3, h4, h5, h6, h7, h8⟩ | ⟨h1, h2, h3, h4, h5, h6, h7⟩
  · exact Or.inl ⟨h1, by omega, by omega⟩
  · exact Or.inr (Or.inl ⟨h1, by omega, h3, h4, h5, h6⟩)
  · exact Or.inr (Or.inr ⟨h1, by omega, h3, by omega, h5⟩)
theorem lg_le {l : List Pt} {ns : Nat} (h : Seg 0 0 l ns 1000000000000) : ∀ f i, 0 ≤ lg l f i ∧ lg l f i ≤ 100000000000000 := by
  obtain ⟨h0, b, d, h1, h2⟩ := h
  have key : ∀ f i, 0 ≤ lg l f i ∧ (i < l.length → lg l f i ≤ b i) ∧ (¬ i < l.length → lg l f i = 0) := by
    intro f
    induction f with
    | zero => intro i; simp [lg]
    | succ f ih =>
      intro i
      by_cases hi : i < l.length
      · have hx : l[i]? = some l[i] := List.getElem?_eq_getElem hi
        generalize l[i] = x at hx
        have hp := h1 i x hx
        rw [Nat.zero_add] at hp
        simp only [lg, hx]
        rcases hp with ⟨q1, q2, q3, q4, q5⟩ | ⟨q1, q2, q3, q4, q5, q6, q7, q8⟩ | ⟨q1, q2, q3, q4, q5, q6, q7⟩
        · rw [if_pos q1]; omega
        · rw [if_neg (by omega), if_pos q1]
          obtain ⟨i1, i2, i3⟩ := ih x.left.toNat
          have i2 := i2 (by omega)
          rcases q6 with e | ⟨e1, e2⟩
          · rw [if_pos e]; omega
          · rw [if_neg (by omega)]
            have : 0 ≤ lg l f x.left.toNat * x.high := Int.mul_nonneg i1 (by omega)
            have h9 : lg l f x.left.toNat * x.high ≤ lg l f x.left.toNat * 9 := Int.mul_le_mul_of_nonneg_left e2 i1
            omega
        · rw [if_neg (by omega), if_neg (by omega)]
          obtain ⟨i1, i2, i3⟩ := ih x.left.toNat
          have i2 := i2 (by omega)
          obtain ⟨j1, j2, j3⟩ := ih x.right.toNat
          have j2 := j2 (by omega)
          omega
      · have hx : l[i]? = none := List.getElem?_eq_none (by omega)
        simp [lg, hi]
  intro f i
  obtain ⟨k1, k2, k3⟩ := key f i
  refine ⟨k1, ?_⟩
  by_cases hi : i < l.length
  · have := (h2 i hi).1
    rw [Nat.zero_add] at this
    have := k2 hi
    omega
  · rw [k3 hi]; omega
/-- How many edges part i has at most, not written out. -/
def pg (ps : List Pt) : Nat → Nat → Nat
  | 0, _ => 0
  | f + 1, i =>
    match ps[i]? with
    | none => 0
    | some x =>
      if x.op = 0 then 1 else
      if x.op = 3 then pg ps f x.left.toNat + 5
      else pg ps f x.left.toNat + pg ps f x.right.toNat + 1
theorem pg_le {l : List Pt} {ns c : Nat} (h : Seg 0 0 l ns c) : ∀ f i, pg l f i ≤ 5 * l.length := by
  obtain ⟨h0, b, d, h1, h2⟩ := h
  have key : ∀ f i, (i < l.length → pg l f i ≤ d i) ∧ (¬ i < l.length → pg l f i = 0) := by
    intro f
    induction f with
    | zero => intro i; simp [pg]
    | succ f ih =>
      intro i
      by_cases hi : i < l.length
      · have hx : l[i]? = some l[i] := List.getElem?_eq_getElem hi
        generalize l[i] = x at hx
        have hp := h1 i x hx
        rw [Nat.zero_add] at hp
        simp only [pg, hx]
        rcases hp with ⟨q1, q2, q3, q4, q5⟩ | ⟨q1, q2, q3, q4, q5, q6, q7, q8⟩ | ⟨q1, q2, q3, q4, q5, q6, q7⟩
        · rw [if_pos q1]; omega
        · rw [if_neg (by omega), if_pos q1]
          have i2 := (ih x.left.toNat).1 (by omega)
          omega
        · rw [if_neg (by omega), if_neg (by omega)]
          have i2 := (ih x.left.toNat).1 (by omega)
          have j2 := (ih x.right.toNat).1 (by omega)
          omega
      · have hx : l[i]? = none := List.getElem?_eq_none (by omega)
        simp [pg, hi]
  intro f i
  obtain ⟨k2, k3⟩ := key f i
  by_cases hi : i < l.length
  · have := (h2 i hi).2
    rw [Nat.zero_add] at this
    have := k2 hi
    omega
  · rw [k3 hi]; omega
theorem lg_pos {ps : List Pt} {ns : Nat} (h : WfP ps ns) : ∀ f i, i < f → i < ps.length → 1 ≤ lg ps f i := by
  intro f
  induction f with
  | zero => intro i hi; omega
  | succ f ih =>
    intro i hi hl
    have hx : ps[i]? = some ps[i] := List.getElem?_eq_getElem hl
    generalize ps[i] = x at hx
    simp only [lg, hx]
    rcases h i x hx with ⟨q1, _⟩ | ⟨q1, q2, q3, q4, q5, q6⟩ | ⟨q1, q2, q3, q4, q5⟩
    · rw [if_pos q1]; omega
    · rw [if_neg (by omega), if_pos q1]
      have := ih x.left.toNat (by omega) (by omega)
      rcases q6 with e | ⟨e1, e2⟩
      · rw [if_pos e]; omega
      · rw [if_neg (by omega)]
        have : lg ps f x.left.toNat * 1 ≤ lg ps f x.left.toNat * x.high := Int.mul_le_mul_of_nonneg_left e1 (by omega)
        omega
    · rw [if_neg (by omega), if_neg (by omega)]
      have := ih x.left.toNat (by omega) (by omega)
      have := ih x.right.toNat (by omega) (by omega)
      omega
/-- How many edges and points part i has at most, written out. -/
def bg (ps : List Pt) : Nat → Nat → Nat
  | 0, _ => 0
  | f + 1, i =>
    match ps[i]? with
    | none => 0
    | some x =>
      if x.op = 0 then 1 else
      if x.op = 3 then (if x.high = -1 then bg ps f x.left.toNat + 5 else x.high.toNat * (bg ps f x.left.toNat + 2) + 1)
      else bg ps f x.left.toNat + bg ps f x.right.toNat + 1
theorem bg_le {ps : List Pt} {ns : Nat} (h : WfP ps ns) : ∀ f i, i < f → i < ps.length → (bg ps f i : Int) ≤ lg ps f i * (5 * i + 5) := by
  intro f
  induction f with
  | zero => intro i hi; omega
  | succ f ih =>
    intro i hi hl
    have hx : ps[i]? = some ps[i] := List.getElem?_eq_getElem hl
    generalize ps[i] = x at hx
    simp only [lg, bg, hx]
    rcases h i x hx with ⟨q1, _⟩ | ⟨q1, q2, q3, q4, q5, q6⟩ | ⟨q1, q2, q3, q4, q5⟩
    · rw [if_pos q1, if_pos q1]; omega
    · have h0 : ¬ x.op = 0 := by omega
      rw [if_neg h0, if_pos q1, if_neg h0, if_pos q1]
      have hI := ih x.left.toNat (by omega) (by omega)
      have hL := lg_pos h f x.left.toNat (by omega) (by omega)
      generalize lg ps f x.left.toNat = L at *
      generalize bg ps f x.left.toNat = b at *
      obtain ⟨l, hl'⟩ : ∃ l : Nat, x.left = l := ⟨x.left.toNat, by omega⟩
      rw [hl'] at hI
      simp only [Int.toNat_natCast] at hI
      have hI2 : (b : Int) ≤ L * (5 * i) := Int.le_trans hI (Int.mul_le_mul_of_nonneg_left (by omega) (by omega))
      rcases q6 with e | ⟨e1, e2⟩
      · rw [if_pos e, if_pos e]
        have : L * (5 * (i : Int) + 5) = L * (5 * i) + L * 5 := Int.mul_add _ _ _
        push_cast; omega
      · rw [if_neg (by omega), if_neg (by omega)]
        obtain ⟨hh, hh'⟩ : ∃ hh : Nat, x.high = hh := ⟨x.high.toNat, by omega⟩
        rw [hh'] at e1 e2 ⊢
        simp only [Int.toNat_natCast]
        rw [Int.natCast_add, Int.natCast_mul, Int.natCast_add]
        show (hh : Int) * ((b : Int) + 2) + 1 ≤ _
        have s1 : (hh : Int) * ((b : Int) + 2) ≤ hh * (L * (5 * i) + 2) := Int.mul_le_mul_of_nonneg_left (by omega) (by omega)
        have s2 : (hh : Int) * (L * (5 * i) + 2) = L * hh * (5 * i) + 2 * hh := by rw [Int.mul_add, ← Int.mul_assoc, Int.mul_comm (hh : Int) L]; omega
        have s3 : L * (hh : Int) * (5 * i + 5) = L * hh * (5 * i) + L * hh * 5 := Int.mul_add _ _ _
        have s4 : (hh : Int) * 1 ≤ hh * L := Int.mul_le_mul_of_nonneg_left hL (by omega)
        have s5 : (hh : Int) * L = L * hh := Int.mul_comm _ _
        omega
    · have h0 : ¬ x.op = 0 := by omega
      have h3 : ¬ x.op = 3 := by omega
      rw [if_neg h0, if_neg h3, if_neg h0, if_neg h3]
      have hI := ih x.left.toNat (by omega) (by omega)
      have hJ := ih x.right.toNat (by omega) (by omega)
      have hL := lg_pos h f x.left.toNat (by omega) (by omega)
      have hM := lg_pos h f x.right.toNat (by omega) (by omega)
      generalize lg ps f x.left.toNat = L at *
      generalize lg ps f x.right.toNat = M at *
      generalize bg ps f x.left.toNat = b at *
      generalize bg ps f x.right.toNat = d at *
      have hI2 : (b : Int) ≤ L * (5 * i) := Int.le_trans hI (Int.mul_le_mul_of_nonneg_left (by omega) (by omega))
      have hJ2 : (d : Int) ≤ M * (5 * i) := Int.le_trans hJ (Int.mul_le_mul_of_nonneg_left (by omega) (by omega))
      have : (L + M) * (5 * (i : Int) + 5) = L * (5 * i) + M * (5 * i) + (L + M) * 5 := by rw [Int.mul_add, Int.add_mul L M (5 * i)]
      push_cast; omega
end Go.Proofs.YtcboiapggnmpfaaGreat
