/- Plain mathematics: the edges that plain makes of a tree's parts are those of the tree's plan. -/
import Derived.Test.YtcboiapggnmpfaaGreatGq
import Derived.Test.YtcboiapggnmpfaaGreatQa
import Derived.Test.YtcboiapggnmpfaaGreatQr
import Derived.Test.YtcboiapggnmpfaaGreatQs
import Derived.Test.YtcboiapggnmpfaaGreatYc
namespace Go.Proofs.YtcboiapggnmpfaaGreat

def toEd (e : Eg) : Ed := ⟨e.fr, e.to, e.st⟩
/-- Part i of L has the plan T, with its steps from m on. -/
def Den (L : List Pt) (i : Nat) (T : Tri) (m : Nat) : Prop := ∀ f fr tq pt, i < f → plP L f i fr tq pt = ((T.P.pl fr tq pt m).1.map toEd, (T.P.pl fr tq pt m).2)
theorem Den.one {L : List Pt} {i m : Nat} (h : L[i]? = some ⟨0, 0, 0, 0, 0, m⟩) : Den L i Tri.one m := by
  intro f fr tq pt hf
  cases f with
  | zero => omega
  | succ f =>
    simp only [plP, h]
    rfl
theorem Den.round {L : List Pt} {i l m : Nat} {lo hi : Int} {T : Tri} (h : L[i]? = some ⟨3, l, 0, lo, hi, 0⟩) (hl : l < i) (d : Den L l T m) : Den L i (T.round lo hi) m := by
  intro f fr tq pt hf
  cases f with
  | zero => omega
  | succ f =>
    simp only [plP, h]
    have e0 : ¬ (3 : Int) = 0 := by decide
    rw [if_neg e0, if_pos trivial, Int.toNat_natCast, d f pt (pt + 1) (pt + 2) (by omega)]
    have e1 : (T.round lo hi).P.pl fr tq pt m = (freeE lo hi fr tq pt ++ (T.P.pl pt (pt + 1) (pt + 2) m).1, (T.P.pl pt (pt + 1) (pt + 2) m).2) := rfl
    rw [e1]
    simp only [List.map_append]
    have e2 : (freeE lo hi fr tq pt).map toEd = [⟨fr, pt, -1⟩, ⟨(pt + 1 : Nat), tq, -1⟩] ++ rdE lo hi pt (pt + 1) := by
      unfold freeE rdE
      by_cases h1 : hi = 1 <;> by_cases h2 : lo = 0 <;> simp [h1, h2, toEd]
    rw [e2]
theorem Den.andThen {L : List Pt} {i l r m : Nat} {T U : Tri} (h : L[i]? = some ⟨1, l, r, 0, 0, 0⟩) (hl : l < i) (hr : r < i) (d : Den L l T m) (d2 : Den L r U (m + T.P.cnt)) : Den L i (T.andThen U) m := by
  intro f fr tq pt hf
  cases f with
  | zero => omega
  | succ f =>
    simp only [plP, h]
    have e0 : ¬ (1 : Int) = 0 := by decide
    have e3 : ¬ (1 : Int) = 3 := by decide
    rw [if_neg e0, if_neg e3, if_pos trivial, Int.toNat_natCast, Int.toNat_natCast, d f fr pt (pt + 1) (by omega)]
    simp only
    rw [d2 f pt tq _ (by omega)]
    have e1 : (T.andThen U).P.pl fr tq pt m = ((T.P.pl fr pt (pt + 1) m).1 ++ (U.P.pl pt tq (T.P.pl fr pt (pt + 1) m).2 (m + T.P.cnt)).1, (U.P.pl pt tq (T.P.pl fr pt (pt + 1) m).2 (m + T.P.cnt)).2) := rfl
    rw [e1]
    simp only [List.map_append]
theorem Den.orElse {L : List Pt} {i l r m : Nat} {T U : Tri} (h : L[i]? = some ⟨2, l, r, 0, 0, 0⟩) (hl : l < i) (hr : r < i) (d : Den L l T m) (d2 : Den L r U (m + T.P.cnt)) : Den L i (T.orElse U) m := by
  intro f fr tq pt hf
  cases f with
  | zero => omega
  | succ f =>
    simp only [plP, h]
    have e0 : ¬ (2 : Int) = 0 := by decide
    have e3 : ¬ (2 : Int) = 3 := by decide
    have e4 : ¬ (2 : Int) = 1 := by decide
    rw [if_neg e0, if_neg e3, if_neg e4, Int.toNat_natCast, Int.toNat_natCast, d f fr tq pt (by omega)]
    simp only
    rw [d2 f fr tq _ (by omega)]
    have e1 : (T.orElse U).P.pl fr tq pt m = ((T.P.pl fr tq pt m).1 ++ (U.P.pl fr tq (T.P.pl fr tq pt m).2 (m + T.P.cnt)).1, (U.P.pl fr tq (T.P.pl fr tq pt m).2 (m + T.P.cnt)).2) := rfl
    rw [e1]
    simp only [List.map_append]
/-- The parts l stand in L from k on. -/
def Sits (L : List Pt) (k : Nat) (l : List Pt) : Prop := ∀ j x, l[j]? = some x → L[k + j]? = some x
theorem Sits.left {L : List Pt} {k : Nat} {a b : List Pt} (h : Sits L k (a ++ b)) : Sits L k a := fun j x hx => h j x (by rw [List.getElem?_append_left (List.getElem?_eq_some_iff.1 hx).1]; exact hx)
theorem Sits.right {L : List Pt} {k : Nat} {a b : List Pt} (h : Sits L k (a ++ b)) : Sits L (k + a.length) b := fun j x hx => by
  have := h (a.length + j) x (by rw [List.getElem?_append_right (by omega)]; simpa using hx)
  rw [Nat.add_assoc]; exact this
theorem Sits.last {L : List Pt} {k : Nat} {a : List Pt} {x : Pt} (h : Sits L k (a ++ [x])) : L[k + a.length]? = some x := by
  have := h.right 0 x rfl
  simpa using this
section
variable {α : Type} {pp : α → Nat → Nat → List Pt} {ss : α → List St} {ft : α → Tri}
def AtomDen (pp : α → Nat → Nat → List Pt) (ss : α → List St) (ft : α → Tri) : Prop := ∀ a L k m, Sits L k (pp a k m) → Den L (k + (pp a k m).length - 1) (ft a) m ∧ 0 < (pp a k m).length ∧ (ft a).P.cnt = (ss a).length
theorem rep_den (H : AtomDen pp ss ft) (x : α × Rep) (L : List Pt) (k m : Nat) (h : Sits L k (repP pp x k m)) : Den L (k + (repP pp x k m).length - 1) (repT ft x) m ∧ 0 < (repP pp x k m).length ∧ (repT ft x).P.cnt = (ss x.1).length := by
  obtain ⟨a, q⟩ := x
  cases q with
  | none => exact H a L k m h
  | some y =>
    obtain ⟨lo, hi⟩ := y
    have h' : Sits L k (pp a k m ++ [⟨3, (k : Int) + (pp a k m).length - 1, 0, lo, hi, 0⟩]) := h
    obtain ⟨d, hp, hc⟩ := H a L k m h'.left
    have hl := h'.last
    have e : (k : Int) + (pp a k m).length - 1 = ((k + (pp a k m).length - 1 : Nat) : Int) := by omega
    rw [e] at hl
    refine ⟨?_, by simp [repP], hc⟩
    have e2 : k + (repP pp (a, some (lo, hi)) k m).length - 1 = k + (pp a k m).length := by simp [repP]
    rw [e2]
    exact Den.round hl (by omega) d
theorem seq_den (H : AtomDen pp ss ft) : ∀ (ys : List (α × Rep)) (x : α × Rep) (L : List Pt) (k m : Nat), Sits L k (seqP pp ss x ys k m) → Den L (k + (seqP pp ss x ys k m).length - 1) (seqT ft x ys) m ∧ 0 < (seqP pp ss x ys k m).length ∧ (seqT ft x ys).P.cnt = (seqS ss x ys).length := by
  intro ys
  induction ys with
  | nil => intro x L k m h; exact rep_den H x L k m h
  | cons y ys ih =>
    intro x L k m h
    simp only [seqP] at h ⊢
    obtain ⟨d, hp, hc⟩ := rep_den H x L k m h.left
    generalize hA : repP pp x k m = A at *
    obtain ⟨d2, hp2, hc2⟩ := ih y L (k + A.length) (m + (ss x.1).length) h.right.left
    generalize hD : seqP pp ss y ys (k + A.length) (m + (ss x.1).length) = D at *
    have hl := h.right.last
    have e : (k : Int) + A.length - 1 = ((k + A.length - 1 : Nat) : Int) := by omega
    have e' : (k : Int) + A.length + D.length - 1 = ((k + A.length + D.length - 1 : Nat) : Int) := by omega
    rw [e, e'] at hl
    refine ⟨?_, by simp only [List.length_append, List.length_cons, List.length_nil]; omega, ?_⟩
    · have e2 : k + (A ++ (D ++ [(⟨1, (k : Int) + A.length - 1, (k : Int) + A.length + D.length - 1, 0, 0, 0⟩ : Pt)])).length - 1 = k + A.length + D.length := by simp; omega
      rw [e2]
      exact Den.andThen hl (by omega) (by omega) d (by rw [hc]; exact d2)
    · show (repT ft x).P.cnt + (seqT ft y ys).P.cnt = _
      rw [hc, hc2]; simp [seqS]
theorem alt_den (H : AtomDen pp ss ft) : ∀ (ts : List (SeqOf α)) (s : SeqOf α) (L : List Pt) (k m : Nat), Sits L k (altP pp ss s ts k m) → Den L (k + (altP pp ss s ts k m).length - 1) (altT ft s ts) m ∧ 0 < (altP pp ss s ts k m).length ∧ (altT ft s ts).P.cnt = (altS ss s ts).length := by
  intro ts
  induction ts with
  | nil => intro s L k m h; exact seq_den H s.2 s.1 L k m h
  | cons t ts ih =>
    intro s L k m h
    simp only [altP] at h ⊢
    obtain ⟨d, hp, hc⟩ := seq_den H s.2 s.1 L k m h.left
    generalize hA : seqP pp ss s.1 s.2 k m = A at *
    obtain ⟨d2, hp2, hc2⟩ := ih t L (k + A.length) (m + (seqS ss s.1 s.2).length) h.right.left
    generalize hD : altP pp ss t ts (k + A.length) (m + (seqS ss s.1 s.2).length) = D at *
    have hl := h.right.last
    have e : (k : Int) + A.length - 1 = ((k + A.length - 1 : Nat) : Int) := by omega
    have e' : (k : Int) + A.length + D.length - 1 = ((k + A.length + D.length - 1 : Nat) : Int) := by omega
    rw [e, e'] at hl
    refine ⟨?_, by simp only [List.length_append, List.length_cons, List.length_nil]; omega, ?_⟩
    · have e2 : k + (A ++ (D ++ [(⟨2, (k : Int) + A.length - 1, (k : Int) + A.length + D.length - 1, 0, 0, 0⟩ : Pt)])).length - 1 = k + A.length + D.length := by simp; omega
      rw [e2]
      exact Den.orElse hl (by omega) (by omega) d (by rw [hc]; exact d2)
    · show (seqT ft s.1 s.2).P.cnt + (altT ft t ts).P.cnt = _
      rw [hc, hc2]; simp [altS]
end
theorem atom_den : ∀ n : Nat, AtomDen (atomP n) (atomS n) (atomT n) := by
  intro n
  induction n with
  | zero =>
    intro a L k m h
    refine ⟨?_, by simp [atomP], rfl⟩
    exact Den.one (h 0 _ rfl)
  | succ n ih =>
    intro a L k m h
    cases a with
    | inl s =>
      refine ⟨?_, by simp [atomP], rfl⟩
      exact Den.one (h 0 _ rfl)
    | inr t => exact alt_den ih t.2 t.1 L k m h
/-- The edges of a whole pattern. -/
theorem top_den (t : AltOf (Atom 8)) (f fr tq pt : Nat) (hf : (altP (atomP 8) (atomS 8) t.1 t.2 0 0).length - 1 < f) :
    plP (altP (atomP 8) (atomS 8) t.1 t.2 0 0) f ((altP (atomP 8) (atomS 8) t.1 t.2 0 0).length - 1) fr tq pt = (((altT (atomT 8) t.1 t.2).P.pl fr tq pt 0).1.map toEd, ((altT (atomT 8) t.1 t.2).P.pl fr tq pt 0).2) := by
  have := (alt_den (atom_den 8) t.2 t.1 (altP (atomP 8) (atomS 8) t.1 t.2 0 0) 0 0 (fun j x hx => by rw [Nat.zero_add]; exact hx)).1
  rw [Nat.zero_add] at this
  exact this f fr tq pt hf
end Go.Proofs.YtcboiapggnmpfaaGreat

namespace Go.Proofs.YtcboiapggnmpfaaGreat
set_option linter.unusedVariables false

theorem Hand.andThen_assoc (A B C : Hand) : (A.andThen B).andThen C = A.andThen (B.andThen C) := by
  simp only [Hand.andThen, Hand.mk.injEq]
  refine ⟨Nat.add_assoc _ _ _, ?_, ?_, ?_, ?_, ?_⟩
  · funext nm x st; rw [Bool.or_assoc, Nat.add_assoc]
  · funext nm x st; rw [Bool.or_assoc, Nat.add_assoc]
  · funext nm x r st k
    by_cases h1 : k < st + A.cnt
    · have h2 : k < st + (A.cnt + B.cnt) := by omega
      simp [h1, h2]
    · by_cases h2 : k < st + (A.cnt + B.cnt)
      · have h3 : k < st + A.cnt + B.cnt := by omega
        simp [h1, h2, h3]
      · have h3 : ¬ k < st + A.cnt + B.cnt := by omega
        simp only [h1, h2, h3, if_false]
        rw [Bool.or_assoc, Nat.add_assoc]
  · funext nm x r st k
    by_cases h1 : k < st + A.cnt
    · have h2 : k < st + (A.cnt + B.cnt) := by omega
      simp [h1, h2]
    · by_cases h2 : k < st + (A.cnt + B.cnt)
      · have h3 : k < st + A.cnt + B.cnt := by omega
        simp [h1, h2, h3]
      · have h3 : ¬ k < st + A.cnt + B.cnt := by omega
        simp only [h1, h2, h3, if_false]
        rw [Bool.or_assoc, Nat.add_assoc]
  · funext r st k
    by_cases h1 : k < st + A.cnt
    · have h2 : k < st + (A.cnt + B.cnt) := by omega
      simp [h1, h2]
    · by_cases h2 : k < st + (A.cnt + B.cnt)
      · have h3 : k < st + A.cnt + B.cnt := by omega
        simp [h1, h2, h3]
      · have h3 : ¬ k < st + A.cnt + B.cnt := by omega
        simp only [h1, h2, h3, if_false]
        rw [Nat.add_assoc]
theorem Hand.orElse_assoc (A B C : Hand) : (A.orElse B).orElse C = A.orElse (B.orElse C) := by
  simp only [Hand.orElse, Hand.mk.injEq]
  refine ⟨Nat.add_assoc _ _ _, ?_, ?_, ?_, ?_, ?_⟩
  · funext nm x st; rw [Bool.or_assoc, Nat.add_assoc]
  · funext nm x st; rw [Bool.and_assoc, Nat.add_assoc]
  · funext nm x r st k
    by_cases h1 : k < st + A.cnt
    · have h2 : k < st + (A.cnt + B.cnt) := by omega
      simp [h1, h2]
    · by_cases h2 : k < st + (A.cnt + B.cnt)
      · have h3 : k < st + A.cnt + B.cnt := by omega
        simp [h1, h2, h3]
      · have h3 : ¬ k < st + A.cnt + B.cnt := by omega
        simp only [h1, h2, h3, if_false]
        rw [Nat.add_assoc]
  · funext nm x r st k
    by_cases h1 : k < st + A.cnt
    · have h2 : k < st + (A.cnt + B.cnt) := by omega
      simp [h1, h2]
    · by_cases h2 : k < st + (A.cnt + B.cnt)
      · have h3 : k < st + A.cnt + B.cnt := by omega
        simp [h1, h2, h3]
      · have h3 : ¬ k < st + A.cnt + B.cnt := by omega
        simp only [h1, h2, h3, if_false]
        rw [Nat.add_assoc]
  · funext r st k
    by_cases h1 : k < st + A.cnt
    · have h2 : k < st + (A.cnt + B.cnt) := by omega
      simp [h1, h2]
    · by_cases h2 : k < st + (A.cnt + B.cnt)
      · have h3 : k < st + A.cnt + B.cnt := by omega
        simp [h1, h2, h3]
      · have h3 : ¬ k < st + A.cnt + B.cnt := by omega
        simp only [h1, h2, h3, if_false]
        rw [Nat.add_assoc]
/-- What is told of a row by its members is told of the row that leans to the left. -/
theorem fold_gen {M X : Type} (op : Int) (φ : Nt → M) (o : M → M → M) (ho : ∀ a b c, o (o a b) c = o a (o b c)) (hφ : ∀ a b, φ (.two op a b) = o (φ a) (φ b)) (tr : X → Nt) (r : X → M) (hr : ∀ x, φ (tr x) = r x) (S : X → List X → M) (h0 : ∀ x, S x [] = r x) (h1 : ∀ x y ys, S x (y :: ys) = o (r x) (S y ys)) :
    ∀ (ys : List X) (x : X) (t : Nt), φ (ys.foldl (fun t y => .two op t (tr y)) (.two op t (tr x))) = o (φ t) (S x ys) := by
  intro ys
  induction ys with
  | nil => intro x t; simp only [List.foldl_nil]; rw [hφ, hr, h0]
  | cons y ys ih =>
    intro x t
    simp only [List.foldl_cons]
    rw [ih y, hφ, hr, h1, ho]
theorem fold_top {M X : Type} (op : Int) (φ : Nt → M) (o : M → M → M) (ho : ∀ a b c, o (o a b) c = o a (o b c)) (hφ : ∀ a b, φ (.two op a b) = o (φ a) (φ b)) (tr : X → Nt) (r : X → M) (hr : ∀ x, φ (tr x) = r x) (S : X → List X → M) (h0 : ∀ x, S x [] = r x) (h1 : ∀ x y ys, S x (y :: ys) = o (r x) (S y ys)) (ys : List X) (x : X) :
    φ (ys.foldl (fun t y => .two op t (tr y)) (tr x)) = S x ys := by
  cases ys with
  | nil => simp only [List.foldl_nil]; rw [hr, h0]
  | cons y ys =>
    simp only [List.foldl_cons]
    rw [fold_gen op φ o ho hφ tr r hr S h0 h1 ys y, h1, hr]
section
variable {α : Type} {f : α → Nt} {g : α → Tri} {ss : α → List St}
theorem rep_hand (h : ∀ a, (f a).hand = (g a).H) (x : α × Rep) : (repTr f x).hand = (repT g x).H := by
  obtain ⟨a, q⟩ := x
  match q with
  | none => exact h a
  | some (lo, hi) =>
    show (f a).hand.round = (g a).H.round
    rw [h a]
theorem seq_hand (h : ∀ a, (f a).hand = (g a).H) (x : SeqOf α) : (seqTr f x).hand = (seqT g x.1 x.2).H :=
  fold_top 1 Nt.hand Hand.andThen Hand.andThen_assoc (fun a b => by simp [Nt.hand]) (repTr f) (fun x => (repT g x).H) (rep_hand h) (fun x ys => (seqT g x ys).H) (fun _ => rfl) (fun _ _ _ => rfl) x.2 x.1
theorem alt_hand (h : ∀ a, (f a).hand = (g a).H) (x : AltOf α) : (altTr f x).hand = (altT g x.1 x.2).H :=
  fold_top 2 Nt.hand Hand.orElse Hand.orElse_assoc (fun a b => by simp [Nt.hand]) (seqTr f) (fun x => (seqT g x.1 x.2).H) (seq_hand h) (fun x ys => (altT g x ys).H) (fun _ => rfl) (fun _ _ _ => rfl) x.2 x.1
theorem rep_stepsN (h : ∀ a, (f a).steps = ss a) (x : α × Rep) : (repTr f x).steps = ss x.1 := by
  obtain ⟨a, q⟩ := x
  match q with
  | none => exact h a
  | some (lo, hi) => exact h a
theorem seq_stepsN (h : ∀ a, (f a).steps = ss a) (x : SeqOf α) : (seqTr f x).steps = seqS ss x.1 x.2 :=
  fold_top 1 Nt.steps (· ++ ·) (fun a b c => List.append_assoc a b c) (fun a b => rfl) (repTr f) (fun x => ss x.1) (rep_stepsN h) (seqS ss) (fun _ => rfl) (fun _ _ _ => rfl) x.2 x.1
theorem alt_stepsN (h : ∀ a, (f a).steps = ss a) (x : AltOf α) : (altTr f x).steps = altS ss x.1 x.2 :=
  fold_top 2 Nt.steps (· ++ ·) (fun a b c => List.append_assoc a b c) (fun a b => rfl) (seqTr f) (fun x => seqS ss x.1 x.2) (seq_stepsN h) (altS ss) (fun _ => rfl) (fun _ _ _ => rfl) x.2 x.1
end
theorem atom_hand : ∀ (n : Nat) (a : Atom n), (atomTr n a).hand = (atomT n a).H := by
  intro n
  induction n with
  | zero => intro a; rfl
  | succ n ih =>
    intro a
    match a with
    | .inl s => rfl
    | .inr t => exact alt_hand ih t
theorem atom_stepsN : ∀ (n : Nat) (a : Atom n), (atomTr n a).steps = atomS n a := by
  intro n
  induction n with
  | zero => intro a; rfl
  | succ n ih =>
    intro a
    match a with
    | .inl s => rfl
    | .inr t => exact alt_stepsN ih t
section
variable {α : Type}
def repL (g : α → Int) (x : α × Rep) : Int :=
  match x.2 with
  | none => g x.1
  | some (_, hi) => if hi = -1 then g x.1 else g x.1 * hi
def seqL (g : α → Int) : α × Rep → List (α × Rep) → Int
  | x, [] => repL g x
  | x, y :: ys => repL g x + seqL g y ys
def altL (g : α → Int) : SeqOf α → List (SeqOf α) → Int
  | s, [] => seqL g s.1 s.2
  | s, t :: ts => seqL g s.1 s.2 + altL g t ts
variable {f : α → Nt} {g : α → Int}
theorem rep_long (h : ∀ a, (f a).long = g a) (x : α × Rep) : (repTr f x).long = repL g x := by
  obtain ⟨a, q⟩ := x
  match q with
  | none => exact h a
  | some (lo, hi) => simp only [repTr, repL, Nt.long, h a]
theorem seq_long (h : ∀ a, (f a).long = g a) (x : SeqOf α) : (seqTr f x).long = seqL g x.1 x.2 :=
  fold_top 1 Nt.long (· + ·) (fun a b c => Int.add_assoc a b c) (fun a b => rfl) (repTr f) (repL g) (rep_long h) (seqL g) (fun _ => rfl) (fun _ _ _ => rfl) x.2 x.1
theorem alt_long (h : ∀ a, (f a).long = g a) (x : AltOf α) : (altTr f x).long = altL g x.1 x.2 :=
  fold_top 2 Nt.long (· + ·) (fun a b c => Int.add_assoc a b c) (fun a b => rfl) (seqTr f) (fun x => seqL g x.1 x.2) (seq_long h) (altL g) (fun _ => rfl) (fun _ _ _ => rfl) x.2 x.1
end
def atomL : (n : Nat) → Atom n → Int
  | 0, _ => 1
  | _ + 1, .inl _ => 1
  | n + 1, .inr t => altL (atomL n) t.1 t.2
theorem atom_long : ∀ (n : Nat) (a : Atom n), (atomTr n a).long = atomL n a := by
  intro n
  induction n with
  | zero => intro a; rfl
  | succ n ih =>
    intro a
    match a with
    | .inl s => rfl
    | .inr t => exact alt_long ih t
/-- Part i of L: which of its steps stand in a repetition; how long it is. -/
def WiIs (L : List Pt) (i : Nat) (H : Hand) (m : Nat) : Prop := ∀ (f : Nat) (k : Nat) (deep : Bool), i < f → wi L f i k deep = (decide (m ≤ k ∧ k < m + H.cnt) && H.ir deep m k)
def LgIs (L : List Pt) (i : Nat) (v : Int) : Prop := ∀ f, i < f → lg L f i = v
theorem WiIs.one {L : List Pt} {i m : Nat} (h : L[i]? = some ⟨0, 0, 0, 0, 0, m⟩) : WiIs L i Hand.one m := by
  intro f k deep hf
  cases f with
  | zero => omega
  | succ f =>
    simp only [wi, h, if_true, Hand.one]
    by_cases e : k = m
    · subst e; cases deep <;> simp
    · have h1 : ((m : Int) == (k : Int)) = false := by simp; omega
      have h2 : ¬ (m ≤ k ∧ k < m + 1) := by omega
      rw [h1]; simp [h2]
theorem LgIs.one {L : List Pt} {i m : Nat} (h : L[i]? = some ⟨0, 0, 0, 0, 0, m⟩) : LgIs L i 1 := by
  intro f hf
  cases f with
  | zero => omega
  | succ f => simp only [lg, h, if_true]
theorem WiIs.round {L : List Pt} {i l m : Nat} {lo hi : Int} {H : Hand} (h : L[i]? = some ⟨3, l, 0, lo, hi, 0⟩) (hl : l < i) (d : WiIs L l H m) : WiIs L i H.round m := by
  intro f k deep hf
  cases f with
  | zero => omega
  | succ f =>
    have e0 : ¬ (3 : Int) = 0 := by decide
    simp only [wi, h, if_neg e0, if_true, Int.toNat_natCast]
    rw [d f k true (by omega)]
    rfl
theorem LgIs.round {L : List Pt} {i l : Nat} {lo hi v : Int} (h : L[i]? = some ⟨3, l, 0, lo, hi, 0⟩) (hl : l < i) (d : LgIs L l v) : LgIs L i (if hi = -1 then v else v * hi) := by
  intro f hf
  cases f with
  | zero => omega
  | succ f =>
    have e0 : ¬ (3 : Int) = 0 := by decide
    simp only [lg, h, if_neg e0, if_true, Int.toNat_natCast]
    rw [d f (by omega)]
theorem LgIs.two {L : List Pt} {i l r : Nat} {op v u : Int} (hop : op = 1 ∨ op = 2) (h : L[i]? = some ⟨op, l, r, 0, 0, 0⟩) (hl : l < i) (hr : r < i) (d : LgIs L l v) (d2 : LgIs L r u) : LgIs L i (v + u) := by
  intro f hf
  cases f with
  | zero => omega
  | succ f =>
    have e0 : ¬ op = 0 := by omega
    have e3 : ¬ op = 3 := by omega
    simp only [lg, h, if_neg e0, if_neg e3, Int.toNat_natCast]
    rw [d f (by omega), d2 f (by omega)]
theorem WiIs.two {L : List Pt} {i l r m : Nat} {op : Int} {H K J : Hand} (hop : op = 1 ∨ op = 2) (h : L[i]? = some ⟨op, l, r, 0, 0, 0⟩) (hl : l < i) (hr : r < i) (d : WiIs L l H m) (d2 : WiIs L r K (m + H.cnt)) (hc : J.cnt = H.cnt + K.cnt) (hi : ∀ deep k, J.ir deep m k = if k < m + H.cnt then H.ir deep m k else K.ir deep (m + H.cnt) k) : WiIs L i J m := by
  intro f k deep hf
  cases f with
  | zero => omega
  | succ f =>
    have e0 : ¬ op = 0 := by omega
    have e3 : ¬ op = 3 := by omega
    simp only [wi, h, if_neg e0, if_neg e3, Int.toNat_natCast]
    rw [d f k deep (by omega), d2 f k deep (by omega), hi, hc]
    by_cases h1 : k < m + H.cnt
    · have e2 : decide (m + H.cnt ≤ k ∧ k < m + H.cnt + K.cnt) = false := by simp; omega
      rw [e2, if_pos h1]
      by_cases h2 : m ≤ k
      · have a1 : decide (m ≤ k ∧ k < m + H.cnt) = true := by simp; omega
        have a2 : decide (m ≤ k ∧ k < m + (H.cnt + K.cnt)) = true := by simp; omega
        rw [a1, a2]; simp
      · have a1 : decide (m ≤ k ∧ k < m + H.cnt) = false := by simp; omega
        have a2 : decide (m ≤ k ∧ k < m + (H.cnt + K.cnt)) = false := by simp; omega
        rw [a1, a2]; simp
    · have e2 : decide (m ≤ k ∧ k < m + H.cnt) = false := by simp; omega
      rw [e2, if_neg h1]
      by_cases h2 : k < m + (H.cnt + K.cnt)
      · have a1 : decide (m + H.cnt ≤ k ∧ k < m + H.cnt + K.cnt) = true := by simp; omega
        have a2 : decide (m ≤ k ∧ k < m + (H.cnt + K.cnt)) = true := by simp; omega
        rw [a1, a2]; simp
      · have a1 : decide (m + H.cnt ≤ k ∧ k < m + H.cnt + K.cnt) = false := by simp; omega
        have a2 : decide (m ≤ k ∧ k < m + (H.cnt + K.cnt)) = false := by simp; omega
        rw [a1, a2]; simp
section
variable {α : Type} {pp : α → Nat → Nat → List Pt} {ss : α → List St} {ft : α → Tri} {gl : α → Int}
def AtomDn (pp : α → Nat → Nat → List Pt) (ss : α → List St) (ft : α → Tri) (gl : α → Int) : Prop := ∀ a L k m, Sits L k (pp a k m) → WiIs L (k + (pp a k m).length - 1) (ft a).H m ∧ LgIs L (k + (pp a k m).length - 1) (gl a) ∧ 0 < (pp a k m).length ∧ (ft a).H.cnt = (ss a).length
theorem rep_dn (H : AtomDn pp ss ft gl) (x : α × Rep) (L : List Pt) (k m : Nat) (h : Sits L k (repP pp x k m)) : WiIs L (k + (repP pp x k m).length - 1) (repT ft x).H m ∧ LgIs L (k + (repP pp x k m).length - 1) (repL gl x) ∧ 0 < (repP pp x k m).length ∧ (repT ft x).H.cnt = (ss x.1).length := by
  obtain ⟨a, q⟩ := x
  cases q with
  | none => exact H a L k m h
  | some y =>
    obtain ⟨lo, hi⟩ := y
    have h' : Sits L k (pp a k m ++ [⟨3, (k : Int) + (pp a k m).length - 1, 0, lo, hi, 0⟩]) := h
    obtain ⟨d, d', hp, hc⟩ := H a L k m h'.left
    have hl := h'.last
    have e : (k : Int) + (pp a k m).length - 1 = ((k + (pp a k m).length - 1 : Nat) : Int) := by omega
    rw [e] at hl
    have e2 : k + (repP pp (a, some (lo, hi)) k m).length - 1 = k + (pp a k m).length := by simp [repP]
    rw [e2]
    exact ⟨WiIs.round hl (by omega) d, LgIs.round hl (by omega) d', by simp [repP], hc⟩
theorem seq_dn (H : AtomDn pp ss ft gl) : ∀ (ys : List (α × Rep)) (x : α × Rep) (L : List Pt) (k m : Nat), Sits L k (seqP pp ss x ys k m) → WiIs L (k + (seqP pp ss x ys k m).length - 1) (seqT ft x ys).H m ∧ LgIs L (k + (seqP pp ss x ys k m).length - 1) (seqL gl x ys) ∧ 0 < (seqP pp ss x ys k m).length ∧ (seqT ft x ys).H.cnt = (seqS ss x ys).length := by
  intro ys
  induction ys with
  | nil => intro x L k m h; exact rep_dn H x L k m h
  | cons y ys ih =>
    intro x L k m h
    simp only [seqP] at h ⊢
    obtain ⟨d, d', hp, hc⟩ := rep_dn H x L k m h.left
    generalize hA : repP pp x k m = A at *
    obtain ⟨d2, d2', hp2, hc2⟩ := ih y L (k + A.length) (m + (ss x.1).length) h.right.left
    generalize hD : seqP pp ss y ys (k + A.length) (m + (ss x.1).length) = D at *
    have hl := h.right.last
    have e : (k : Int) + A.length - 1 = ((k + A.length - 1 : Nat) : Int) := by omega
    have e' : (k : Int) + A.length + D.length - 1 = ((k + A.length + D.length - 1 : Nat) : Int) := by omega
    rw [e, e'] at hl
    have e2 : k + (A ++ (D ++ [(⟨1, (k : Int) + A.length - 1, (k : Int) + A.length + D.length - 1, 0, 0, 0⟩ : Pt)])).length - 1 = k + A.length + D.length := by simp; omega
    rw [e2]
    refine ⟨WiIs.two (Or.inl rfl) hl (by omega) (by omega) d (by rw [hc]; exact d2) rfl (fun _ _ => rfl), LgIs.two (Or.inl rfl) hl (by omega) (by omega) d' d2', by simp only [List.length_append, List.length_cons, List.length_nil]; omega, ?_⟩
    show (repT ft x).H.cnt + (seqT ft y ys).H.cnt = _
    rw [hc, hc2]; simp [seqS]
theorem alt_dn (H : AtomDn pp ss ft gl) : ∀ (ts : List (SeqOf α)) (s : SeqOf α) (L : List Pt) (k m : Nat), Sits L k (altP pp ss s ts k m) → WiIs L (k + (altP pp ss s ts k m).length - 1) (altT ft s ts).H m ∧ LgIs L (k + (altP pp ss s ts k m).length - 1) (altL gl s ts) ∧ 0 < (altP pp ss s ts k m).length ∧ (altT ft s ts).H.cnt = (altS ss s ts).length := by
  intro ts
  induction ts with
  | nil => intro s L k m h; exact seq_dn H s.2 s.1 L k m h
  | cons t ts ih =>
    intro s L k m h
    simp only [altP] at h ⊢
    obtain ⟨d, d', hp, hc⟩ := seq_dn H s.2 s.1 L k m h.left
    generalize hA : seqP pp ss s.1 s.2 k m = A at *
    obtain ⟨d2, d2', hp2, hc2⟩ := ih t L (k + A.length) (m + (seqS ss s.1 s.2).length) h.right.left
    generalize hD : altP pp ss t ts (k + A.length) (m + (seqS ss s.1 s.2).length) = D at *
    have hl := h.right.last
    have e : (k : Int) + A.length - 1 = ((k + A.length - 1 : Nat) : Int) := by omega
    have e' : (k : Int) + A.length + D.length - 1 = ((k + A.length + D.length - 1 : Nat) : Int) := by omega
    rw [e, e'] at hl
    have e2 : k + (A ++ (D ++ [(⟨2, (k : Int) + A.length - 1, (k : Int) + A.length + D.length - 1, 0, 0, 0⟩ : Pt)])).length - 1 = k + A.length + D.length := by simp; omega
    rw [e2]
    refine ⟨WiIs.two (Or.inr rfl) hl (by omega) (by omega) d (by rw [hc]; exact d2) rfl (fun _ _ => rfl), LgIs.two (Or.inr rfl) hl (by omega) (by omega) d' d2', by simp only [List.length_append, List.length_cons, List.length_nil]; omega, ?_⟩
    show (seqT ft s.1 s.2).H.cnt + (altT ft t ts).H.cnt = _
    rw [hc, hc2]; simp [altS]
end
theorem atom_dn : ∀ n : Nat, AtomDn (atomP n) (atomS n) (atomT n) (atomL n) := by
  intro n
  induction n with
  | zero =>
    intro a L k m h
    exact ⟨WiIs.one (h 0 _ rfl), LgIs.one (h 0 _ rfl), by simp [atomP], rfl⟩
  | succ n ih =>
    intro a L k m h
    cases a with
    | inl s => exact ⟨WiIs.one (h 0 _ rfl), LgIs.one (h 0 _ rfl), by simp [atomP], rfl⟩
    | inr t => exact alt_dn ih t.2 t.1 L k m h
/-- Of a whole pattern. -/
theorem top_dn (t : AltOf (Atom 8)) : WiIs (altP (atomP 8) (atomS 8) t.1 t.2 0 0) ((altP (atomP 8) (atomS 8) t.1 t.2 0 0).length - 1) (altT (atomT 8) t.1 t.2).H 0 ∧ LgIs (altP (atomP 8) (atomS 8) t.1 t.2 0 0) ((altP (atomP 8) (atomS 8) t.1 t.2 0 0).length - 1) (altTr (atomTr 8) t).long ∧ (altT (atomT 8) t.1 t.2).H.cnt = (altS (atomS 8) t.1 t.2).length := by
  obtain ⟨a, b, _, c⟩ := alt_dn (atom_dn 8) t.2 t.1 (altP (atomP 8) (atomS 8) t.1 t.2 0 0) 0 0 (fun j x hx => by rw [Nat.zero_add]; exact hx)
  rw [Nat.zero_add] at a b
  rw [alt_long (atom_long 8)]
  exact ⟨a, b, c⟩
/-- Its joints are those of a pattern. -/
theorem fold_ops {X : Type} (op : Int) (hop : op = 1 ∨ op = 2) (tr : X → Nt) (h : ∀ x, (tr x).Ops) : ∀ (ys : List X) (t : Nt), t.Ops → (ys.foldl (fun t y => Nt.two op t (tr y)) t).Ops := by
  intro ys
  induction ys with
  | nil => intro t ht; exact ht
  | cons y ys ih => intro t ht; exact ih _ ⟨hop, ht, h y⟩
section
variable {α : Type} {f : α → Nt}
theorem rep_ops (h : ∀ a, (f a).Ops) (x : α × Rep) : (repTr f x).Ops := by
  obtain ⟨a, q⟩ := x
  match q with
  | none => exact h a
  | some (lo, hi) => exact h a
theorem seq_ops (h : ∀ a, (f a).Ops) (x : SeqOf α) : (seqTr f x).Ops := fold_ops 1 (Or.inl rfl) _ (rep_ops h) _ _ (rep_ops h _)
theorem alt_ops (h : ∀ a, (f a).Ops) (x : AltOf α) : (altTr f x).Ops := fold_ops 2 (Or.inr rfl) _ (seq_ops h) _ _ (seq_ops h _)
end
theorem atom_ops : ∀ (n : Nat) (a : Atom n), (atomTr n a).Ops := by
  intro n
  induction n with
  | zero => intro a; trivial
  | succ n ih =>
    intro a
    match a with
    | .inl s => trivial
    | .inr t => exact alt_ops ih t
theorem yRepS_hi {q : Rep} {u : List Tok} (h : yRepS q u) : ∀ lo hi, q = some (lo, hi) → hi = -1 ∨ (1 ≤ hi ∧ hi ≤ 9) := by
  intro lo hi e
  rcases h with ⟨h, _⟩ | ⟨_, _, h⟩ | ⟨_, _, h⟩ | ⟨_, _, h⟩ | ⟨a, b, _, _, _, _, _, ha, hb, h1, h2, h⟩
  · rw [h] at e; cases e
  · rw [h] at e; simp at e; omega
  · rw [h] at e; simp at e; omega
  · rw [h] at e; simp at e; omega
  · rw [h] at e; simp at e
    have := isDigit_bounds hb
    omega
section
variable {α : Type} {f : α → Nt} {ya : α → List Tok → Prop}
theorem rep_reps (h : ∀ a u, ya a u → (f a).Reps) (x : α × Rep) (u : List Tok) (hy : yRep ya x u) : (repTr f x).Reps := by
  obtain ⟨a, q⟩ := x
  obtain ⟨v, r, _, h1, h2⟩ := hy
  match q, h2 with
  | none, _ => exact h a v h1
  | some (lo, hi), h2 => exact ⟨yRepS_hi h2 lo hi rfl, h a v h1⟩
theorem seq_repsG (h : ∀ a u, ya a u → (f a).Reps) : ∀ (ys : List (α × Rep)) (t : Nt) (u : List Tok), t.Reps → yReps ya ys u → (ys.foldl (fun t y => Nt.two 1 t (repTr f y)) t).Reps := by
  intro ys
  induction ys with
  | nil => intro t u ht _; exact ht
  | cons y ys ih =>
    intro t u ht hy
    obtain ⟨v, r, _, h1, h2⟩ := hy
    exact ih _ r ⟨ht, rep_reps h y v h1⟩ h2
theorem seq_reps (h : ∀ a u, ya a u → (f a).Reps) (x : SeqOf α) (u : List Tok) (hy : ySeq ya x u) : (seqTr f x).Reps := by
  obtain ⟨v, r, _, h1, h2⟩ := hy
  exact seq_repsG h x.2 _ r (rep_reps h x.1 v h1) h2
theorem alt_repsG (h : ∀ a u, ya a u → (f a).Reps) : ∀ (ys : List (SeqOf α)) (t : Nt) (u : List Tok), t.Reps → yAlts ya ys u → (ys.foldl (fun t y => Nt.two 2 t (seqTr f y)) t).Reps := by
  intro ys
  induction ys with
  | nil => intro t u ht _; exact ht
  | cons y ys ih =>
    intro t u ht hy
    obtain ⟨p, v, r, _, h1, h2⟩ := hy
    exact ih _ r ⟨ht, seq_reps h y v h1⟩ h2
theorem alt_reps (h : ∀ a u, ya a u → (f a).Reps) (x : AltOf α) (u : List Tok) (hy : yAlt ya x u) : (altTr f x).Reps := by
  obtain ⟨v, r, _, h1, h2⟩ := hy
  exact alt_repsG h x.2 _ r (seq_reps h x.1 v h1) h2
end
theorem atom_reps : ∀ (n : Nat) (a : Atom n) (u : List Tok), yAtom n a u → (atomTr n a).Reps := by
  intro n
  induction n with
  | zero => intro a u _; trivial
  | succ n ih =>
    intro a u hy
    match a, hy with
    | .inl s, _ => trivial
    | .inr t, hy =>
      obtain ⟨p, v, q, _, h⟩ := hy
      exact alt_reps ih t v h
end Go.Proofs.YtcboiapggnmpfaaGreat
