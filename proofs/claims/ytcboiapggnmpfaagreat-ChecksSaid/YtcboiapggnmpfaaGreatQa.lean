/- Plain mathematics, no program: the form of a pattern as a table of states (the document's own answer), over whole numbers. -/

namespace Go.Proofs.YtcboiapggnmpfaaGreat

def isDigitB (c : Int) : Bool := decide (48 ≤ c) && decide (c ≤ 57)
def isKindB (c : Int) : Bool := c == 46 || (decide (97 ≤ c) && decide (c ≤ 100))
def isNameB (c : Int) : Bool := decide (65 ≤ c) && decide (c ≤ 90)
def isFieldB (c : Int) : Bool := c == 116 || (decide (120 ≤ c) && decide (c ≤ 122))
def isRelB (c : Int) : Bool := c == 60 || c == 62 || c == 61 || c == 35

/-- A state of the form: which, how many are open, digits, term, low. -/
structure Fm where
  st : Int
  op : Int
  dg : Int
  tm : Int
  lw : Int

def freshF (f : Fm) (c : Int) : Option Fm :=
  if isKindB c = true then some { f with st := 1 } else
  if c = 40 ∧ f.op < 8 then some { f with op := f.op + 1, st := 0 } else none

def behindF (f : Fm) (c : Int) : Option Fm :=
  if c = 124 then some { f with st := 0 } else
  if c = 41 ∧ 0 < f.op then some { f with op := f.op - 1, st := 3 } else
  if c = 64 ∧ f.op = 0 then some { f with st := 12, dg := 0 } else freshF f c

def wholeF (f : Fm) (c : Int) : Option Fm :=
  if c = 42 ∨ c = 43 ∨ c = 63 then some { f with st := 4 } else
  if c = 123 then some { f with st := 5 } else behindF f c

def testedF (f : Fm) (c : Int) : Option Fm :=
  if f.tm = 0 ∧ isRelB c = true then some { f with tm := 1, st := 8 } else
  if f.tm = 1 ∧ (c = 43 ∨ c = 45 ∨ c = 42) then some { f with tm := 2, st := 8 } else
  if 0 < f.tm ∧ c = 38 then some { f with tm := 0, st := 8 } else
  if 0 < f.tm ∧ c = 93 then some { f with st := 3 } else none

def termedF (f : Fm) (c : Int) : Option Fm :=
  if f.st = 8 ∧ isDigitB c = true then some { f with st := 10, dg := 1 } else
  if f.st = 8 ∧ isNameB c = true then some { f with st := 9 } else
  if ¬ f.st = 10 ∧ isFieldB c = true then some { f with st := 11 } else
  if f.st = 10 ∧ isDigitB c = true then (if f.dg + 1 ≤ 18 then some { f with dg := f.dg + 1 } else none) else
  if f.st = 10 then testedF f c else none

def bracedF (f : Fm) (c : Int) : Option Fm :=
  if f.st = 5 ∧ isDigitB c = true then some { f with lw := c - 48, st := 6 } else
  if f.st = 6 ∧ isDigitB c = true ∧ 48 < c ∧ f.lw ≤ c - 48 then some { f with st := 7 } else
  if f.st = 7 ∧ c = 125 then some { f with st := 4 } else none

def nextF (f : Fm) (c : Int) : Option Fm :=
  if f.st = 0 then freshF f c else
  if f.st = 1 ∨ f.st = 2 then
    (if f.st = 1 ∧ isNameB c = true then some { f with st := 2 } else
     if c = 91 then some { f with st := 8, tm := 0 } else wholeF f c) else
  if f.st = 3 then wholeF f c else
  if f.st = 4 then behindF f c else
  if f.st = 5 ∨ f.st = 6 ∨ f.st = 7 then bracedF f c else
  if f.st = 11 then testedF f c else
  if f.st = 12 ∨ f.st = 13 then
    (if isDigitB c = true ∧ f.dg + 1 ≤ 18 then some { f with st := 13, dg := f.dg + 1 } else none) else
  termedF f c

def overF (f : Fm) : Bool :=
  (f.st == 1 || f.st == 2 || f.st == 3 || f.st == 4) && f.op == 0 || f.st == 13

/-- The place of the first byte that cannot stand (from state f on, at place i), the length, or -1. -/
def placeT (n : Nat) : Fm → Nat → List Int → Int
  | f, _, [] => if overF f = true then -1 else (n : Int)
  | f, i, c :: r => if c = 32 then placeT n f (i + 1) r else
      match nextF f c with
      | none => (i : Int)
      | some g => placeT n g (i + 1) r

/-- The numbers of a state stay small. -/
structure Small (f : Fm) : Prop where
  st : 0 ≤ f.st ∧ f.st ≤ 13
  op : 0 ≤ f.op ∧ f.op ≤ 8
  dg : 0 ≤ f.dg ∧ f.dg ≤ 18
  tm : 0 ≤ f.tm ∧ f.tm ≤ 2
  lw : 0 ≤ f.lw ∧ f.lw ≤ 9

theorem freshF_small {f g : Fm} {c : Int} (h : Small f) (e : freshF f c = some g) : Small g := by
  obtain ⟨h1, h2, h3, h4, h5⟩ := h
  unfold freshF at e
  split at e
  · cases e; constructor <;> dsimp only <;> omega
  · split at e
    · cases e; constructor <;> dsimp only <;> omega
    · cases e
theorem behindF_small {f g : Fm} {c : Int} (h : Small f) (e : behindF f c = some g) : Small g := by
  have h' := h
  obtain ⟨h1, h2, h3, h4, h5⟩ := h
  unfold behindF at e
  split at e
  · cases e; constructor <;> dsimp only <;> omega
  · split at e
    · cases e; constructor <;> dsimp only <;> omega
    · split at e
      · cases e; constructor <;> dsimp only <;> omega
      · exact freshF_small h' e
theorem wholeF_small {f g : Fm} {c : Int} (h : Small f) (e : wholeF f c = some g) : Small g := by
  have h' := h
  obtain ⟨h1, h2, h3, h4, h5⟩ := h
  unfold wholeF at e
  split at e
  · cases e; constructor <;> dsimp only <;> omega
  · split at e
    · cases e; constructor <;> dsimp only <;> omega
    · exact behindF_small h' e
theorem testedF_small {f g : Fm} {c : Int} (h : Small f) (e : testedF f c = some g) : Small g := by
  obtain ⟨h1, h2, h3, h4, h5⟩ := h
  unfold testedF at e
  split at e
  · cases e; constructor <;> dsimp only <;> omega
  · split at e
    · cases e; constructor <;> dsimp only <;> omega
    · split at e
      · cases e; constructor <;> dsimp only <;> omega
      · split at e
        · cases e; constructor <;> dsimp only <;> omega
        · cases e
theorem isDigit_bounds {c : Int} (h : isDigitB c = true) : 48 ≤ c ∧ c ≤ 57 := by
  simpa [isDigitB] using h
theorem termedF_small {f g : Fm} {c : Int} (h : Small f) (e : termedF f c = some g) : Small g := by
  have h' := h
  obtain ⟨h1, h2, h3, h4, h5⟩ := h
  unfold termedF at e
  split at e
  · cases e; constructor <;> dsimp only <;> omega
  · split at e
    · cases e; constructor <;> dsimp only <;> omega
    · split at e
      · cases e; constructor <;> dsimp only <;> omega
      · split at e
        · split at e
          · cases e; constructor <;> dsimp only <;> omega
          · cases e
        · split at e
          · exact testedF_small h' e
          · cases e
theorem bracedF_small {f g : Fm} {c : Int} (h : Small f) (e : bracedF f c = some g) : Small g := by
  obtain ⟨h1, h2, h3, h4, h5⟩ := h
  unfold bracedF at e
  split at e
  · rename_i hd
    have := isDigit_bounds hd.2
    cases e; constructor <;> dsimp only <;> omega
  · split at e
    · cases e; constructor <;> dsimp only <;> omega
    · split at e
      · cases e; constructor <;> dsimp only <;> omega
      · cases e
theorem nextF_small {f g : Fm} {c : Int} (h : Small f) (e : nextF f c = some g) : Small g := by
  have h' := h
  obtain ⟨h1, h2, h3, h4, h5⟩ := h
  unfold nextF at e
  split at e
  · exact freshF_small h' e
  · split at e
    · split at e
      · cases e; constructor <;> dsimp only <;> omega
      · split at e
        · cases e; constructor <;> dsimp only <;> omega
        · exact wholeF_small h' e
    · split at e
      · exact wholeF_small h' e
      · split at e
        · exact behindF_small h' e
        · split at e
          · exact bracedF_small h' e
          · split at e
            · exact testedF_small h' e
            · split at e
              · split at e
                · cases e; constructor <;> dsimp only <;> omega
                · cases e
              · exact termedF_small h' e
end Go.Proofs.YtcboiapggnmpfaaGreat

namespace Go.Proofs.YtcboiapggnmpfaaGreat

/-- A byte that is no blank, and its place. -/
abbrev Tok := Int × Nat
def toks : Nat → List Int → List Tok
  | _, [] => []
  | i, c :: r => if c = 32 then toks (i + 1) r else (c, i) :: toks (i + 1) r

structure Tm where
  of : Int
  field : Int
  num : Int
structure Tst where
  left : Tm
  rel : Int
  right : Tm
  arith : Int
  more : Tm
structure St where
  kind : Int
  name : Int
  pos : Nat
  tests : List Tst
def tm0 : Tm := ⟨0, 0, 0⟩
def tst0 : Tst := ⟨tm0, 0, tm0, 0, tm0⟩
def kindV (c : Int) : Int := if c = 46 then 4 else c - 97
def fieldV (c : Int) : Int := if c = 120 then 1 else if c = 121 then 2 else if c = 122 then 3 else 0
def relV (c : Int) : Int := if c = 62 then 1 else if c = 61 then 2 else if c = 35 then 3 else 0
def arithV (c : Int) : Int := if c = 43 then 1 else if c = 45 then 2 else if c = 42 then 3 else 0
def isArithB (c : Int) : Bool := c == 43 || c == 45 || c == 42

def pNum : Int → Nat → List Tok → Option Int × List Tok
  | acc, k, [] => (if k = 0 then none else some acc, [])
  | acc, k, (c, p) :: r =>
    if isDigitB c = true then
      (if k = 18 then (none, (c, p) :: r) else pNum (10 * acc + (c - 48)) (k + 1) r)
    else (if k = 0 then none else some acc, (c, p) :: r)
def pField (of : Int) : List Tok → Option Tm × List Tok
  | [] => (none, [])
  | (c, p) :: r => if isFieldB c = true then (some ⟨of, fieldV c, 0⟩, r) else (none, (c, p) :: r)
def pTerm : List Tok → Option Tm × List Tok
  | [] => (none, [])
  | (c, p) :: r =>
    if isDigitB c = true then
      (match pNum 0 0 ((c, p) :: r) with
      | (some v, x) => (some ⟨0, 0, v⟩, x)
      | (none, x) => (none, x))
    else if isNameB c = true then pField (2 + (c - 65)) r else pField 1 ((c, p) :: r)
def pTail (a : Tm) (c : Int) (b : Tm) : List Tok → Option Tst × List Tok
  | [] => (some ⟨a, relV c, b, 0, tm0⟩, [])
  | (d, q) :: r =>
    if isArithB d = true then
      (match pTerm r with
      | (none, x) => (none, x)
      | (some m, x) => (some ⟨a, relV c, b, arithV d, m⟩, x))
    else (some ⟨a, relV c, b, 0, tm0⟩, (d, q) :: r)
def pTest (l : List Tok) : Option Tst × List Tok :=
  match pTerm l with
  | (none, r) => (none, r)
  | (some _, []) => (none, [])
  | (some a, (c, p) :: r) =>
    if isRelB c = true then
      (match pTerm r with
      | (none, x) => (none, x)
      | (some b, x) => pTail a c b x)
    else (none, (c, p) :: r)
def pTests : Nat → List Tok → Option (List Tst) × List Tok
  | 0, l => (none, l)
  | n + 1, l =>
    match pTest l with
    | (none, r) => (none, r)
    | (some _, []) => (none, [])
    | (some t, (c, p) :: r) =>
      if c = 38 then
        (match pTests n r with
        | (none, x) => (none, x)
        | (some ts, x) => (some (t :: ts), x))
      else if c = 93 then (some [t], r) else (none, (c, p) :: r)
def pName : List Tok → Int × List Tok
  | [] => (-1, [])
  | (c, p) :: r => if isNameB c = true then (c - 65, r) else (-1, (c, p) :: r)
def pBox : List Tok → Option (List Tst) × List Tok
  | [] => (some [], [])
  | (c, p) :: r => if c = 91 then pTests (r.length + 1) r else (some [], (c, p) :: r)
def pStep : List Tok → Option St × List Tok
  | [] => (none, [])
  | (c, p) :: r =>
    if isKindB c = true then
      (match pBox (pName r).2 with
      | (none, x) => (none, x)
      | (some ts, x) => (some ⟨kindV c, (pName r).1, p, ts⟩, x))
    else (none, (c, p) :: r)
/-- A repetition: low, high (-1: no bound). -/
abbrev Rep := Option (Int × Int)
def pClose (a b : Int) : List Tok → Option Rep × List Tok
  | [] => (none, [])
  | (d, p) :: r => if d = 125 then (some (some (a, b)), r) else (none, (d, p) :: r)
def pHigh (a : Int) : List Tok → Option Rep × List Tok
  | [] => (none, [])
  | (b, p) :: r => if isDigitB b = true ∧ 48 < b ∧ a ≤ b - 48 then pClose a (b - 48) r else (none, (b, p) :: r)
def pLow : List Tok → Option Rep × List Tok
  | [] => (none, [])
  | (a, p) :: r => if isDigitB a = true then pHigh (a - 48) r else (none, (a, p) :: r)
def pRepS : List Tok → Option Rep × List Tok
  | [] => (some none, [])
  | (c, p) :: r =>
    if c = 42 then (some (some (0, -1)), r) else
    if c = 43 then (some (some (1, -1)), r) else
    if c = 63 then (some (some (0, 1)), r) else
    if c = 123 then pLow r else (some none, (c, p) :: r)
section
variable {α : Type} (pa : List Tok → Option α × List Tok)
def pRep (l : List Tok) : Option (α × Rep) × List Tok :=
  match pa l with
  | (none, r) => (none, r)
  | (some a, r) =>
    match pRepS r with
    | (none, x) => (none, x)
    | (some q, x) => (some (a, q), x)
def pMore : Nat → List Tok → Option (List (α × Rep)) × List Tok
  | 0, l => (some [], l)
  | _ + 1, [] => (some [], [])
  | n + 1, (c, p) :: r =>
    if c = 40 ∨ isKindB c = true then
      (match pRep pa ((c, p) :: r) with
      | (none, x) => (none, x)
      | (some a, x) =>
        match pMore n x with
        | (none, y) => (none, y)
        | (some as, y) => (some (a :: as), y))
    else (some [], (c, p) :: r)
abbrev SeqOf (α : Type) := (α × Rep) × List (α × Rep)
abbrev AltOf (α : Type) := SeqOf α × List (SeqOf α)
def pSeq (l : List Tok) : Option (SeqOf α) × List Tok :=
  match pRep pa l with
  | (none, r) => (none, r)
  | (some a, r) =>
    match pMore pa r.length r with
    | (none, x) => (none, x)
    | (some as, x) => (some (a, as), x)
def pAlts : Nat → List Tok → Option (List (SeqOf α)) × List Tok
  | 0, l => (some [], l)
  | _ + 1, [] => (some [], [])
  | n + 1, (c, p) :: r =>
    if c = 124 then
      (match pSeq pa r with
      | (none, x) => (none, x)
      | (some a, x) =>
        match pAlts n x with
        | (none, y) => (none, y)
        | (some as, y) => (some (a :: as), y))
    else (some [], (c, p) :: r)
def pAlt (l : List Tok) : Option (AltOf α) × List Tok :=
  match pSeq pa l with
  | (none, r) => (none, r)
  | (some a, r) =>
    match pAlts pa r.length r with
    | (none, x) => (none, x)
    | (some as, x) => (some (a, as), x)
/-- A whole pattern: its alternative and its window (none: there is none), or what is left where it fails. -/
def pTopOf (l : List Tok) : Option (AltOf α × Option Int) × List Tok :=
  match pAlt pa l with
  | (none, x) => (none, x)
  | (some t, []) => (some (t, none), [])
  | (some t, (c, p) :: r) =>
    if c = 64 then
      (match pNum 0 0 r with
      | (none, x) => (none, x)
      | (some v, []) => (some (t, some v), [])
      | (some _, x :: y) => (none, x :: y))
    else (none, (c, p) :: r)
end
/-- What stands in at most n pairs of brackets: a step, or an alternative within a pair. -/
def Atom : Nat → Type
  | 0 => St
  | n + 1 => St ⊕ AltOf (Atom n)
def pAtom : (n : Nat) → List Tok → Option (Atom n) × List Tok
  | 0, l => pStep l
  | _ + 1, [] => (none, [])
  | n + 1, (c, p) :: r =>
    if c = 40 then
      (match pAlt (pAtom n) r with
      | (none, x) => (none, x)
      | (some _, []) => (none, [])
      | (some t, (d, q) :: y) => if d = 41 then (some (.inr t), y) else (none, (d, q) :: y))
    else
      (match pStep ((c, p) :: r) with
      | (none, x) => (none, x)
      | (some s, x) => (some (.inl s), x))
end Go.Proofs.YtcboiapggnmpfaaGreat

namespace Go.Proofs.YtcboiapggnmpfaaGreat

def numV (acc : Int) (ds : List Tok) : Int := ds.foldl (fun a d => 10 * a + (d.1 - 48)) acc
def yTm (t : Tm) (u : List Tok) : Prop :=
  (1 ≤ u.length ∧ u.length ≤ 18 ∧ (∀ d ∈ u, isDigitB d.1 = true) ∧ t = ⟨0, 0, numV 0 u⟩) ∨
  (∃ c p, u = [(c, p)] ∧ isFieldB c = true ∧ t = ⟨1, fieldV c, 0⟩) ∨
  (∃ n p c q, u = [(n, p), (c, q)] ∧ isNameB n = true ∧ isFieldB c = true ∧ t = ⟨2 + (n - 65), fieldV c, 0⟩)
def yTst (t : Tst) (u : List Tok) : Prop :=
  ∃ a r p b, yTm t.left a ∧ yTm t.right b ∧ isRelB r = true ∧ t.rel = relV r ∧
    ((u = a ++ (r, p) :: b ∧ t.arith = 0 ∧ t.more = tm0) ∨
     (∃ d q m, isArithB d = true ∧ yTm t.more m ∧ t.arith = arithV d ∧ u = a ++ (r, p) :: (b ++ (d, q) :: m)))
def yTsts : List Tst → List Tok → Prop
  | [], _ => False
  | [t], u => ∃ a p, yTst t a ∧ u = a ++ [(93, p)]
  | t :: t2 :: ts, u => ∃ a p v, yTst t a ∧ u = a ++ (38, p) :: v ∧ yTsts (t2 :: ts) v
def yBox (ts : List Tst) (u : List Tok) : Prop := (ts = [] ∧ u = []) ∨ ∃ p v, u = (91, p) :: v ∧ yTsts ts v
def yNm (n : Int) (u : List Tok) : Prop := (n = -1 ∧ u = []) ∨ ∃ c p, isNameB c = true ∧ u = [(c, p)] ∧ n = c - 65
def ySt (s : St) (u : List Tok) : Prop := ∃ c a b, u = (c, s.pos) :: (a ++ b) ∧ isKindB c = true ∧ s.kind = kindV c ∧ yNm s.name a ∧ yBox s.tests b
def yRepS (q : Rep) (u : List Tok) : Prop :=
  (q = none ∧ u = []) ∨ (∃ p, u = [(42, p)] ∧ q = some (0, -1)) ∨ (∃ p, u = [(43, p)] ∧ q = some (1, -1)) ∨ (∃ p, u = [(63, p)] ∧ q = some (0, 1)) ∨
  (∃ a b p0 p1 p2 p3, u = [(123, p0), (a, p1), (b, p2), (125, p3)] ∧ isDigitB a = true ∧ isDigitB b = true ∧ 48 < b ∧ a - 48 ≤ b - 48 ∧ q = some (a - 48, b - 48))
section
variable {α : Type} (ya : α → List Tok → Prop)
def yRep (x : α × Rep) (u : List Tok) : Prop := ∃ v r, u = v ++ r ∧ ya x.1 v ∧ yRepS x.2 r
def yReps : List (α × Rep) → List Tok → Prop
  | [], u => u = []
  | x :: xs, u => ∃ v r, u = v ++ r ∧ yRep ya x v ∧ yReps xs r
def ySeq (s : SeqOf α) (u : List Tok) : Prop := yReps ya (s.1 :: s.2) u
def yAlts : List (SeqOf α) → List Tok → Prop
  | [], u => u = []
  | s :: ss, u => ∃ p v r, u = (124, p) :: (v ++ r) ∧ ySeq ya s v ∧ yAlts ss r
def yAlt (t : AltOf α) (u : List Tok) : Prop := ∃ v r, u = v ++ r ∧ ySeq ya t.1 v ∧ yAlts ya t.2 r
end
def yAtom : (n : Nat) → Atom n → List Tok → Prop
  | 0, s, u => ySt s u
  | _ + 1, .inl s, u => ySt s u
  | n + 1, .inr t, u => ∃ p v q, u = (40, p) :: (v ++ [(41, q)]) ∧ yAlt (yAtom n) t v

theorem pNum_y : ∀ (l : List Tok) (acc : Int) (k : Nat) (v : Int) (x : List Tok), k ≤ 18 → pNum acc k l = (some v, x) → ∃ u, l = u ++ x ∧ (∀ d ∈ u, isDigitB d.1 = true) ∧ k + u.length ≤ 18 ∧ 1 ≤ k + u.length ∧ v = numV acc u := by
  intro l
  induction l with
  | nil =>
    intro acc k v x hk h
    simp only [pNum] at h
    split at h
    · simp at h
    · simp at h; exact ⟨[], by simp [h.2], by simp, by simp; omega, by simp; omega, by simp [numV, h.1]⟩
  | cons c l ih =>
    intro acc k v x hk h
    obtain ⟨c, p⟩ := c
    simp only [pNum] at h
    split at h
    · rename_i hd
      split at h
      · simp at h
      · obtain ⟨u, h1, h2, h3, h4, h5⟩ := ih _ _ _ _ (by omega) h
        refine ⟨(c, p) :: u, by simp [h1], ?_, by simp; omega, by simp; omega, by simpa [numV] using h5⟩
        intro d hd'
        simp at hd'
        rcases hd' with e | e
        · subst e; exact hd
        · exact h2 d e
    · split at h
      · simp at h
      · simp at h; exact ⟨[], by simp [h.2], by simp, by simp; omega, by simp; omega, by simp [numV, h.1]⟩
theorem pField_y {of : Int} {l x : List Tok} {t : Tm} (h : pField of l = (some t, x)) : ∃ c p, l = (c, p) :: x ∧ isFieldB c = true ∧ t = ⟨of, fieldV c, 0⟩ := by
  match l, h with
  | [], h => simp [pField] at h
  | (c, p) :: r, h =>
    simp only [pField] at h
    split at h
    · rename_i hc; simp at h; exact ⟨c, p, by simp [h.2], hc, h.1.symm⟩
    · simp at h
theorem pTerm_y {l x : List Tok} {t : Tm} (h : pTerm l = (some t, x)) : ∃ u, l = u ++ x ∧ yTm t u := by
  match l, h with
  | [], h => simp [pTerm] at h
  | (c, p) :: r, h =>
    simp only [pTerm] at h
    split at h
    · split at h
      · rename_i v y hv
        simp at h
        obtain ⟨u, h1, h2, h3, h4, h5⟩ := pNum_y _ _ _ _ _ (by omega) hv
        exact ⟨u, by rw [h1, h.2], Or.inl ⟨by omega, by omega, h2, by rw [← h.1, h5]⟩⟩
      · simp at h
    · split at h
      · rename_i hn
        obtain ⟨d, q, h1, h2, h3⟩ := pField_y h
        exact ⟨[(c, p), (d, q)], by simp [h1], Or.inr (Or.inr ⟨c, p, d, q, rfl, hn, h2, h3⟩)⟩
      · obtain ⟨d, q, h1, h2, h3⟩ := pField_y h
        simp at h1
        obtain ⟨⟨e1, e2⟩, e3⟩ := h1
        subst e1; subst e2
        exact ⟨[(c, p)], by simp [e3], Or.inr (Or.inl ⟨c, p, rfl, h2, h3⟩)⟩
theorem pTest_y {l x : List Tok} {t : Tst} (h : pTest l = (some t, x)) : ∃ u, l = u ++ x ∧ yTst t u := by
  unfold pTest at h
  split at h
  · simp at h
  · simp at h
  · rename_i a c p r ha
    split at h
    · rename_i hc
      split at h
      · simp at h
      · rename_i b y hb
        obtain ⟨u1, e1, y1⟩ := pTerm_y ha
        obtain ⟨u2, e2, y2⟩ := pTerm_y hb
        match y, h, e2 with
        | [], h, e2 =>
          simp [pTail] at h
          refine ⟨u1 ++ (c, p) :: u2, by rw [e1, e2, ← h.2]; simp, u1, c, p, u2, ?_⟩
          rw [← h.1]
          exact ⟨y1, y2, hc, rfl, Or.inl ⟨rfl, rfl, rfl⟩⟩
        | (d, q) :: y, h, e2 =>
          simp only [pTail] at h
          split at h
          · rename_i hd
            split at h
            · simp at h
            · rename_i m z hm
              obtain ⟨u3, e3, y3⟩ := pTerm_y hm
              simp at h
              refine ⟨u1 ++ (c, p) :: (u2 ++ (d, q) :: u3), by rw [e1, e2, e3, h.2]; simp, u1, c, p, u2, ?_⟩
              rw [← h.1]
              exact ⟨y1, y2, hc, rfl, Or.inr ⟨d, q, u3, hd, y3, rfl, rfl⟩⟩
          · simp at h
            refine ⟨u1 ++ (c, p) :: u2, by rw [e1, e2, ← h.2]; simp, u1, c, p, u2, ?_⟩
            rw [← h.1]
            exact ⟨y1, y2, hc, rfl, Or.inl ⟨rfl, rfl, rfl⟩⟩
    · simp at h
theorem yTsts_cons {t : Tst} {ts : List Tst} {a v : List Tok} {p : Nat} (h : yTst t a) (h2 : yTsts ts v) : yTsts (t :: ts) (a ++ (38, p) :: v) := by
  cases ts with
  | nil => simp [yTsts] at h2
  | cons t2 ts => exact ⟨a, p, v, h, rfl, h2⟩
theorem pTests_y : ∀ (n : Nat) (l x : List Tok) (ts : List Tst), pTests n l = (some ts, x) → ∃ u, l = u ++ x ∧ yTsts ts u := by
  intro n
  induction n with
  | zero => intro l x ts h; simp [pTests] at h
  | succ n ih =>
    intro l x ts h
    simp only [pTests] at h
    split at h
    · simp at h
    · simp at h
    · rename_i t c p r ht
      obtain ⟨u1, e1, y1⟩ := pTest_y ht
      split at h
      · rename_i hc
        subst hc
        split at h
        · simp at h
        · rename_i us y hu
          obtain ⟨u2, e2, y2⟩ := ih _ _ _ hu
          simp at h
          refine ⟨u1 ++ (38, p) :: u2, by rw [e1, e2, h.2]; simp, ?_⟩
          rw [← h.1]
          exact yTsts_cons y1 y2
      · split at h
        · rename_i hc
          subst hc
          simp at h
          refine ⟨u1 ++ [(93, p)], by rw [e1, h.2]; simp, ?_⟩
          rw [← h.1]
          exact ⟨u1, p, y1, rfl⟩
        · simp at h
theorem pName_y (l : List Tok) : ∃ u, l = u ++ (pName l).2 ∧ yNm (pName l).1 u := by
  match l with
  | [] => exact ⟨[], rfl, Or.inl ⟨rfl, rfl⟩⟩
  | (c, p) :: r =>
    simp only [pName]
    split
    · rename_i hc; exact ⟨[(c, p)], rfl, Or.inr ⟨c, p, hc, rfl, rfl⟩⟩
    · exact ⟨[], rfl, Or.inl ⟨rfl, rfl⟩⟩
theorem pBox_y {l x : List Tok} {ts : List Tst} (h : pBox l = (some ts, x)) : ∃ u, l = u ++ x ∧ yBox ts u := by
  match l, h with
  | [], h => simp [pBox] at h; exact ⟨[], by simp [h.2.symm], Or.inl ⟨h.1, rfl⟩⟩
  | (c, p) :: r, h =>
    simp only [pBox] at h
    split at h
    · rename_i hc
      subst hc
      obtain ⟨u, e, y⟩ := pTests_y _ _ _ _ h
      exact ⟨(91, p) :: u, by simp [e], Or.inr ⟨p, u, rfl, y⟩⟩
    · simp at h; exact ⟨[], by simp [h.2.symm], Or.inl ⟨h.1, rfl⟩⟩
theorem pStep_y {l x : List Tok} {s : St} (h : pStep l = (some s, x)) : ∃ u, l = u ++ x ∧ ySt s u := by
  match l, h with
  | [], h => simp [pStep] at h
  | (c, p) :: r, h =>
    simp only [pStep] at h
    split at h
    · rename_i hc
      split at h
      · simp at h
      · rename_i ts y hb
        obtain ⟨u1, e1, y1⟩ := pName_y r
        obtain ⟨u2, e2, y2⟩ := pBox_y hb
        simp at h
        refine ⟨(c, p) :: (u1 ++ u2), ?_, c, u1, u2, ?_⟩
        · rw [h.2] at e2
          rw [List.cons_append, List.append_assoc, ← e2, ← e1]
        · rw [← h.1]
          exact ⟨rfl, hc, rfl, y1, y2⟩
    · simp at h
theorem pRepS_y {l x : List Tok} {q : Rep} (h : pRepS l = (some q, x)) : ∃ u, l = u ++ x ∧ yRepS q u := by
  match l, h with
  | [], h => simp [pRepS] at h; exact ⟨[], by simp [h.2.symm], Or.inl ⟨h.1.symm, rfl⟩⟩
  | (c, p) :: r, h =>
    simp only [pRepS] at h
    split at h
    · rename_i hc; subst hc; simp at h; exact ⟨[(42, p)], by simp [h.2], Or.inr (Or.inl ⟨p, rfl, h.1.symm⟩)⟩
    · split at h
      · rename_i hc; subst hc; simp at h; exact ⟨[(43, p)], by simp [h.2], Or.inr (Or.inr (Or.inl ⟨p, rfl, h.1.symm⟩))⟩
      · split at h
        · rename_i hc; subst hc; simp at h; exact ⟨[(63, p)], by simp [h.2], Or.inr (Or.inr (Or.inr (Or.inl ⟨p, rfl, h.1.symm⟩)))⟩
        · split at h
          · rename_i hc
            subst hc
            match r, h with
            | [], h => simp [pLow] at h
            | (a, p1) :: r1, h =>
              simp only [pLow] at h
              split at h
              · rename_i ha
                match r1, h with
                | [], h => simp [pHigh] at h
                | (b, p2) :: r2, h =>
                  simp only [pHigh] at h
                  split at h
                  · rename_i hb
                    match r2, h with
                    | [], h => simp [pClose] at h
                    | (d, p3) :: r3, h =>
                      simp only [pClose] at h
                      split at h
                      · rename_i hd
                        subst hd
                        simp at h
                        exact ⟨[(123, p), (a, p1), (b, p2), (125, p3)], by simp [h.2], Or.inr (Or.inr (Or.inr (Or.inr ⟨a, b, p, p1, p2, p3, rfl, ha, hb.1, hb.2.1, hb.2.2, h.1.symm⟩)))⟩
                      · simp at h
                  · simp at h
              · simp at h
          · simp at h; exact ⟨[], by simp [h.2.symm], Or.inl ⟨h.1.symm, rfl⟩⟩
section
variable {α : Type} {pa : List Tok → Option α × List Tok} {ya : α → List Tok → Prop}
def AtomY (pa : List Tok → Option α × List Tok) (ya : α → List Tok → Prop) : Prop := ∀ l a x, pa l = (some a, x) → ∃ u, l = u ++ x ∧ ya a u
theorem pRep_y (H : AtomY pa ya) {l x : List Tok} {a : α × Rep} (h : pRep pa l = (some a, x)) : ∃ u, l = u ++ x ∧ yRep ya a u := by
  unfold pRep at h
  split at h
  · simp at h
  · rename_i b r hb
    split at h
    · simp at h
    · rename_i q y hq
      obtain ⟨u1, e1, y1⟩ := H _ _ _ hb
      obtain ⟨u2, e2, y2⟩ := pRepS_y hq
      simp at h
      refine ⟨u1 ++ u2, by rw [e1, e2, h.2]; simp, u1, u2, rfl, ?_⟩
      rw [← h.1]
      exact ⟨y1, y2⟩
theorem pMore_y (H : AtomY pa ya) : ∀ (n : Nat) (l x : List Tok) (as : List (α × Rep)), pMore pa n l = (some as, x) → ∃ u, l = u ++ x ∧ yReps ya as u := by
  intro n
  induction n with
  | zero => intro l x as h; simp [pMore] at h; exact ⟨[], by simp [h.2], by rw [h.1]; rfl⟩
  | succ n ih =>
    intro l x as h
    match l, h with
    | [], h => simp [pMore] at h; exact ⟨[], by simp [h.2.symm], by rw [h.1]; rfl⟩
    | (c, p) :: r, h =>
      simp only [pMore] at h
      split at h
      · split at h
        · simp at h
        · rename_i a y ha
          split at h
          · simp at h
          · rename_i bs z hb
            obtain ⟨u1, e1, y1⟩ := pRep_y H ha
            obtain ⟨u2, e2, y2⟩ := ih _ _ _ hb
            simp at h
            refine ⟨u1 ++ u2, by rw [e1, e2, h.2]; simp, ?_⟩
            rw [← h.1]
            exact ⟨u1, u2, rfl, y1, y2⟩
      · simp at h; exact ⟨[], by simp [h.2.symm], by rw [h.1]; rfl⟩
theorem pSeq_y (H : AtomY pa ya) {l x : List Tok} {s : SeqOf α} (h : pSeq pa l = (some s, x)) : ∃ u, l = u ++ x ∧ ySeq ya s u := by
  unfold pSeq at h
  split at h
  · simp at h
  · rename_i a r ha
    split at h
    · simp at h
    · rename_i as y hb
      obtain ⟨u1, e1, y1⟩ := pRep_y H ha
      obtain ⟨u2, e2, y2⟩ := pMore_y H _ _ _ _ hb
      simp at h
      refine ⟨u1 ++ u2, by rw [e1, e2, h.2]; simp, ?_⟩
      rw [← h.1]
      exact ⟨u1, u2, rfl, y1, y2⟩
theorem pAlts_y (H : AtomY pa ya) : ∀ (n : Nat) (l x : List Tok) (as : List (SeqOf α)), pAlts pa n l = (some as, x) → ∃ u, l = u ++ x ∧ yAlts ya as u := by
  intro n
  induction n with
  | zero => intro l x as h; simp [pAlts] at h; exact ⟨[], by simp [h.2], by rw [h.1]; rfl⟩
  | succ n ih =>
    intro l x as h
    match l, h with
    | [], h => simp [pAlts] at h; exact ⟨[], by simp [h.2.symm], by rw [h.1]; rfl⟩
    | (c, p) :: r, h =>
      simp only [pAlts] at h
      split at h
      · rename_i hc
        subst hc
        split at h
        · simp at h
        · rename_i a y ha
          split at h
          · simp at h
          · rename_i bs z hb
            obtain ⟨u1, e1, y1⟩ := pSeq_y H ha
            obtain ⟨u2, e2, y2⟩ := ih _ _ _ hb
            simp at h
            refine ⟨(124, p) :: (u1 ++ u2), by rw [e1, e2, h.2]; simp, ?_⟩
            rw [← h.1]
            exact ⟨p, u1, u2, rfl, y1, y2⟩
      · simp at h; exact ⟨[], by simp [h.2.symm], by rw [h.1]; rfl⟩
theorem pAlt_y (H : AtomY pa ya) {l x : List Tok} {t : AltOf α} (h : pAlt pa l = (some t, x)) : ∃ u, l = u ++ x ∧ yAlt ya t u := by
  unfold pAlt at h
  split at h
  · simp at h
  · rename_i a r ha
    split at h
    · simp at h
    · rename_i as y hb
      obtain ⟨u1, e1, y1⟩ := pSeq_y H ha
      obtain ⟨u2, e2, y2⟩ := pAlts_y H _ _ _ _ hb
      simp at h
      refine ⟨u1 ++ u2, by rw [e1, e2, h.2]; simp, ?_⟩
      rw [← h.1]
      exact ⟨u1, u2, rfl, y1, y2⟩
end
theorem pAtom_y : ∀ n : Nat, AtomY (pAtom n) (yAtom n) := by
  intro n
  induction n with
  | zero => intro l a x h; exact pStep_y h
  | succ n ih =>
    intro l a x h
    match l, h with
    | [], h => simp [pAtom] at h
    | (c, p) :: r, h =>
      simp only [pAtom] at h
      split at h
      · rename_i hc
        subst hc
        split at h
        · simp at h
        · simp at h
        · rename_i t d q y ht
          split at h
          · rename_i hd
            subst hd
            obtain ⟨u, e, y1⟩ := pAlt_y ih ht
            simp at h
            refine ⟨(40, p) :: (u ++ [(41, q)]), by rw [e, h.2]; simp, ?_⟩
            rw [← Option.some.inj h.1]
            exact ⟨p, u, q, rfl, y1⟩
          · simp at h
      · split at h
        · simp at h
        · rename_i s y hs
          obtain ⟨u, e, y1⟩ := pStep_y hs
          simp at h
          refine ⟨u, by rw [e, h.2], ?_⟩
          rw [← Option.some.inj h.1]
          exact y1
/-- A whole pattern's bytes: the alternative's, and the window's behind an @. -/
theorem pTop_y {l : List Tok} {t : AltOf (Atom 8)} {o : Option Int} {x : List Tok} (h : pTopOf (pAtom 8) l = (some (t, o), x)) :
    ∃ u, yAlt (yAtom 8) t u ∧ ((o = none ∧ l = u) ∨ ∃ p ds, o = some (numV 0 ds) ∧ l = u ++ (64, p) :: ds ∧ (∀ d ∈ ds, isDigitB d.1 = true) ∧ 1 ≤ ds.length ∧ ds.length ≤ 18) := by
  unfold pTopOf at h
  split at h
  · simp at h
  · rename_i t' ht
    obtain ⟨u, e, y⟩ := pAlt_y (pAtom_y 8) ht
    simp at h
    obtain ⟨⟨rfl, rfl⟩, _⟩ := h
    exact ⟨u, y, Or.inl ⟨rfl, by simp [e]⟩⟩
  · rename_i t' c p r ht
    obtain ⟨u, e, y⟩ := pAlt_y (pAtom_y 8) ht
    split at h
    · rename_i hc
      subst hc
      split at h
      · simp at h
      · rename_i v hv
        obtain ⟨ds, h1, h2, h3, h4, h5⟩ := pNum_y _ _ _ _ _ (by omega) hv
        simp at h
        obtain ⟨⟨rfl, rfl⟩, _⟩ := h
        exact ⟨u, y, Or.inr ⟨p, ds, by rw [h5], by rw [e, h1]; simp, h2, by omega, by omega⟩⟩
      · simp at h
    · simp at h
end Go.Proofs.YtcboiapggnmpfaaGreat

namespace Go.Proofs.YtcboiapggnmpfaaGreat

def brk (c : Int) : Int := if c = 40 ∨ c = 91 ∨ c = 123 then 1 else if c = 41 ∨ c = 93 ∨ c = 125 then -1 else 0
/-- How many bytes there are up to the one that shuts, n being open. -/
def sh : Int → List Tok → Nat
  | _, [] => 0
  | n, c :: r => if n + brk c.1 = 0 then 1 else 1 + sh (n + brk c.1) r
def Bal (u : List Tok) : Prop := ∀ n x, 1 ≤ n → sh n (u ++ x) = u.length + sh n x
theorem Bal.nil : Bal [] := by intro n x _; simp
theorem Bal.append {u v : List Tok} (h : Bal u) (h2 : Bal v) : Bal (u ++ v) := by
  intro n x hn
  rw [List.append_assoc, h n _ hn, h2 n x hn, List.length_append]; omega
theorem Bal.cons {c : Tok} {u : List Tok} (hc : brk c.1 = 0) (h : Bal u) : Bal (c :: u) := by
  intro n x hn
  rw [List.cons_append]
  simp only [sh, hc, Int.add_zero, List.length_cons]
  rw [if_neg (by omega), h n x hn]; omega
theorem Bal.plain {u : List Tok} (h : ∀ c ∈ u, brk c.1 = 0) : Bal u := by
  induction u with
  | nil => exact Bal.nil
  | cons c r ih => exact Bal.cons (h c (by simp)) (ih (fun d hd => h d (by simp [hd])))
theorem Bal.bracket {c d : Tok} {u : List Tok} (hc : brk c.1 = 1) (hd : brk d.1 = -1) (h : Bal u) : Bal (c :: (u ++ [d])) := by
  intro n x hn
  rw [List.cons_append, List.append_assoc]
  simp only [sh, hc, List.length_cons, List.length_append, List.length_nil]
  rw [if_neg (by omega), h (n + 1) _ (by omega)]
  simp only [List.cons_append, List.nil_append, sh, hd]
  rw [if_neg (by omega)]
  have : n + 1 + -1 = n := by omega
  rw [this]; omega
/-- A bracket that opens, what stands in it, and the one that shuts. -/
theorem sh_bracket {c d : Tok} {u x : List Tok} (hc : brk c.1 = 1) (hd : brk d.1 = -1) (h : Bal u) : sh 0 (c :: (u ++ d :: x)) = u.length + 2 := by
  simp only [sh, hc]
  rw [if_neg (by omega), h (0 + 1) _ (by omega)]
  simp only [sh, hd]
  rw [if_pos (by omega)]; omega
theorem sh_le : ∀ (u : List Tok) (n : Int), sh n u ≤ u.length := by
  intro u
  induction u with
  | nil => intro n; simp [sh]
  | cons c r ih =>
    intro n
    simp only [sh, List.length_cons]
    have := ih (n + brk c.1)
    split <;> omega
/-- u is passed over by k steps, each over a byte or over what stands in a bracket. -/
def Sc : Nat → List Tok → Prop
  | 0, u => u = []
  | k + 1, u => (∃ c r, u = c :: r ∧ ¬ c.1 = 124 ∧ ¬ c.1 = 40 ∧ ¬ c.1 = 91 ∧ Sc k r) ∨
      (∃ c v d r, u = c :: (v ++ d :: r) ∧ (c.1 = 40 ∨ c.1 = 91) ∧ brk d.1 = -1 ∧ Bal v ∧ Sc k r)
theorem Sc.append : ∀ (k m : Nat) (u v : List Tok), Sc k u → Sc m v → Sc (k + m) (u ++ v) := by
  intro k
  induction k with
  | zero => intro m u v h h2; simp only [Sc] at h; subst h; simpa using h2
  | succ k ih =>
    intro m u v h h2
    rw [Nat.succ_add]
    rcases h with ⟨c, r, e, h3, h4, h5, h6⟩ | ⟨c, w, d, r, e, h3, h4, h5, h6⟩
    · exact Or.inl ⟨c, r ++ v, by rw [e]; rfl, h3, h4, h5, ih m r v h6 h2⟩
    · exact Or.inr ⟨c, w, d, r ++ v, by rw [e]; simp, h3, h4, h5, ih m r v h6 h2⟩
def ScE (u : List Tok) : Prop := ∃ k, Sc k u
theorem ScE.nil : ScE [] := ⟨0, rfl⟩
theorem ScE.append {u v : List Tok} (h : ScE u) (h2 : ScE v) : ScE (u ++ v) := by
  obtain ⟨k, h⟩ := h
  obtain ⟨m, h2⟩ := h2
  exact ⟨k + m, Sc.append k m u v h h2⟩
theorem ScE.one {c : Tok} (h1 : ¬ c.1 = 124) (h2 : ¬ c.1 = 40) (h3 : ¬ c.1 = 91) : ScE [c] := ⟨1, Or.inl ⟨c, [], rfl, h1, h2, h3, rfl⟩⟩
theorem ScE.cons {c : Tok} {u : List Tok} (h1 : ¬ c.1 = 124) (h2 : ¬ c.1 = 40) (h3 : ¬ c.1 = 91) (h : ScE u) : ScE (c :: u) := ScE.append (ScE.one h1 h2 h3) h
theorem ScE.bracket {c d : Tok} {u : List Tok} (hc : c.1 = 40 ∨ c.1 = 91) (hd : brk d.1 = -1) (h : Bal u) : ScE (c :: (u ++ [d])) := ⟨1, Or.inr ⟨c, u, d, [], rfl, hc, hd, h, rfl⟩⟩
/-- A byte of a term. -/
def TmC (c : Int) : Prop := isDigitB c = true ∨ isNameB c = true ∨ isFieldB c = true
theorem TmC.range {c : Int} (h : TmC c) : (48 ≤ c ∧ c ≤ 57) ∨ (65 ≤ c ∧ c ≤ 90) ∨ c = 116 ∨ (120 ≤ c ∧ c ≤ 122) := by
  unfold TmC isDigitB isNameB isFieldB at h
  simp at h
  omega
theorem yTm_chars {t : Tm} {u : List Tok} (h : yTm t u) : (∀ c ∈ u, TmC c.1) ∧ 1 ≤ u.length := by
  rcases h with ⟨h1, _, h2, _⟩ | ⟨c, p, e, h, _⟩ | ⟨n, p, c, q, e, h1, h2, _⟩
  · exact ⟨fun c hc => Or.inl (h2 c hc), h1⟩
  · subst e; simp; exact Or.inr (Or.inr h)
  · subst e; simp; exact ⟨Or.inr (Or.inl h1), Or.inr (Or.inr h2)⟩
theorem isRel_iff (c : Int) : isRelB c = true ↔ (c = 60 ∨ c = 62 ∨ c = 61 ∨ c = 35) := by simp [isRelB, or_assoc]
theorem isArith_iff' (c : Int) : isArithB c = true ↔ (c = 43 ∨ c = 45 ∨ c = 42) := by simp [isArithB, or_assoc]
theorem isDigit_iff (c : Int) : isDigitB c = true ↔ (48 ≤ c ∧ c ≤ 57) := by simp [isDigitB]
theorem isName_iff (c : Int) : isNameB c = true ↔ (65 ≤ c ∧ c ≤ 90) := by simp [isNameB]
theorem isKind_iff (c : Int) : isKindB c = true ↔ (c = 46 ∨ (97 ≤ c ∧ c ≤ 100)) := by simp [isKindB]
theorem isField_iff (c : Int) : isFieldB c = true ↔ (c = 116 ∨ (120 ≤ c ∧ c ≤ 122)) := by simp [isFieldB]
theorem yTst_chars {t : Tst} {u : List Tok} (h : yTst t u) : ∀ c ∈ u, TmC c.1 ∨ isRelB c.1 = true ∨ isArithB c.1 = true := by
  obtain ⟨a, r, p, b, ya, yb, hr, _, h⟩ := h
  intro c hc
  rcases h with ⟨e, _, _⟩ | ⟨d, q, m, hd, ym, _, e⟩
  · subst e
    simp at hc
    rcases hc with hc | hc | hc
    · exact Or.inl ((yTm_chars ya).1 c hc)
    · subst hc; exact Or.inr (Or.inl hr)
    · exact Or.inl ((yTm_chars yb).1 c hc)
  · subst e
    simp at hc
    rcases hc with hc | hc | hc | hc | hc
    · exact Or.inl ((yTm_chars ya).1 c hc)
    · subst hc; exact Or.inr (Or.inl hr)
    · exact Or.inl ((yTm_chars yb).1 c hc)
    · subst hc; exact Or.inr (Or.inr hd)
    · exact Or.inl ((yTm_chars ym).1 c hc)
/-- No bracket, no &, no |. -/
def NoB (c : Int) : Prop := ¬ c = 38 ∧ ¬ c = 40 ∧ ¬ c = 41 ∧ ¬ c = 91 ∧ ¬ c = 93 ∧ ¬ c = 123 ∧ ¬ c = 124 ∧ ¬ c = 125
theorem yTst_noB {t : Tst} {u : List Tok} (h : yTst t u) : ∀ c ∈ u, NoB c.1 := by
  intro c hc
  rcases yTst_chars h c hc with h | h | h
  · have := h.range; unfold NoB; omega
  · rw [isRel_iff] at h; unfold NoB; omega
  · rw [isArith_iff'] at h; unfold NoB; omega
theorem brk_noB {c : Int} (h : NoB c) : brk c = 0 := by
  unfold NoB at h
  unfold brk
  rw [if_neg (by omega), if_neg (by omega)]
/-- What stands within [ ] is in balance. -/
theorem yTsts_bal : ∀ (ts : List Tst) (u : List Tok), yTsts ts u → ∃ v p, u = v ++ [(93, p)] ∧ Bal v ∧ 1 ≤ v.length := by
  intro ts
  induction ts with
  | nil => intro u h; simp [yTsts] at h
  | cons t ts ih =>
    intro u h
    have hlen : ∀ a, yTst t a → 1 ≤ a.length := by
      intro a ha
      obtain ⟨x, r, p, b, _, _, _, _, h⟩ := ha
      rcases h with ⟨e, _, _⟩ | ⟨d, q, m, _, _, _, e⟩ <;> subst e <;> simp <;> omega
    cases ts with
    | nil =>
      obtain ⟨a, p, ha, e⟩ := h
      exact ⟨a, p, e, Bal.plain (fun c hc => brk_noB (yTst_noB ha c hc)), hlen a ha⟩
    | cons t2 ts =>
      obtain ⟨a, p, v, ha, e, hv⟩ := h
      obtain ⟨v', p', e', hb, _⟩ := ih v hv
      refine ⟨a ++ (38, p) :: v', p', by rw [e, e']; simp, ?_, by simp; omega⟩
      exact Bal.append (Bal.plain (fun c hc => brk_noB (yTst_noB ha c hc))) (Bal.cons (by decide : brk 38 = 0) hb)
theorem yBox_scan {ts : List Tst} {u : List Tok} (h : yBox ts u) : ScE u ∧ Bal u := by
  rcases h with ⟨_, e⟩ | ⟨p, v, e, h⟩
  · subst e; exact ⟨ScE.nil, Bal.nil⟩
  · obtain ⟨v', p', e', hb, _⟩ := yTsts_bal ts v h
    subst e; subst e'
    exact ⟨ScE.bracket (Or.inr rfl) (by decide : brk 93 = -1) hb, Bal.bracket (by decide : brk 91 = 1) (by decide : brk 93 = -1) hb⟩
theorem yNm_scan {n : Int} {u : List Tok} (h : yNm n u) : ScE u ∧ Bal u := by
  rcases h with ⟨_, e⟩ | ⟨c, p, hc, e, _⟩
  · subst e; exact ⟨ScE.nil, Bal.nil⟩
  · subst e
    rw [isName_iff] at hc
    refine ⟨ScE.one (by simp; omega) (by simp; omega) (by simp; omega), Bal.cons ?_ Bal.nil⟩
    simp only [brk]; rw [if_neg (by omega), if_neg (by omega)]
theorem ySt_scan {s : St} {u : List Tok} (h : ySt s u) : ScE u ∧ Bal u := by
  obtain ⟨c, a, b, e, hc, _, ha, hb⟩ := h
  subst e
  rw [isKind_iff] at hc
  refine ⟨ScE.cons (by simp; omega) (by simp; omega) (by simp; omega) (ScE.append (yNm_scan ha).1 (yBox_scan hb).1), Bal.cons ?_ (Bal.append (yNm_scan ha).2 (yBox_scan hb).2)⟩
  simp only [brk]; rw [if_neg (by omega), if_neg (by omega)]
theorem yRepS_scan {q : Rep} {u : List Tok} (h : yRepS q u) : ScE u ∧ Bal u := by
  rcases h with ⟨_, e⟩ | ⟨p, e, _⟩ | ⟨p, e, _⟩ | ⟨p, e, _⟩ | ⟨a, b, p0, p1, p2, p3, e, ha, hb, _⟩
  · subst e; exact ⟨ScE.nil, Bal.nil⟩
  · subst e; exact ⟨ScE.one (by simp) (by simp) (by simp), Bal.cons (by simp [brk]) Bal.nil⟩
  · subst e; exact ⟨ScE.one (by simp) (by simp) (by simp), Bal.cons (by simp [brk]) Bal.nil⟩
  · subst e; exact ⟨ScE.one (by simp) (by simp) (by simp), Bal.cons (by simp [brk]) Bal.nil⟩
  · subst e
    rw [isDigit_iff] at ha hb
    refine ⟨ScE.cons (by simp) (by simp) (by simp) (ScE.cons (by simp; omega) (by simp; omega) (by simp; omega) (ScE.cons (by simp; omega) (by simp; omega) (by simp; omega) (ScE.one (by simp) (by simp) (by simp)))), ?_⟩
    refine Bal.bracket (c := (123, p0)) (d := (125, p3)) (u := [(a, p1), (b, p2)]) (by simp [brk]) (by simp [brk]) ?_
    refine Bal.cons ?_ (Bal.cons ?_ Bal.nil) <;> (simp only [brk]; rw [if_neg (by omega), if_neg (by omega)])
section
variable {α : Type} {ya : α → List Tok → Prop}
def ScanY (ya : α → List Tok → Prop) : Prop := ∀ a u, ya a u → ScE u ∧ Bal u
theorem yRep_scan (H : ScanY ya) {x : α × Rep} {u : List Tok} (h : yRep ya x u) : ScE u ∧ Bal u := by
  obtain ⟨v, r, e, h1, h2⟩ := h
  subst e
  exact ⟨ScE.append (H _ _ h1).1 (yRepS_scan h2).1, Bal.append (H _ _ h1).2 (yRepS_scan h2).2⟩
theorem yReps_scan (H : ScanY ya) : ∀ (xs : List (α × Rep)) (u : List Tok), yReps ya xs u → ScE u ∧ Bal u := by
  intro xs
  induction xs with
  | nil => intro u h; simp only [yReps] at h; subst h; exact ⟨ScE.nil, Bal.nil⟩
  | cons x xs ih =>
    intro u h
    obtain ⟨v, r, e, h1, h2⟩ := h
    subst e
    exact ⟨ScE.append (yRep_scan H h1).1 (ih r h2).1, Bal.append (yRep_scan H h1).2 (ih r h2).2⟩
theorem yAlts_bal (H : ScanY ya) : ∀ (ss : List (SeqOf α)) (u : List Tok), yAlts ya ss u → Bal u := by
  intro ss
  induction ss with
  | nil => intro u h; simp only [yAlts] at h; subst h; exact Bal.nil
  | cons s ss ih =>
    intro u h
    obtain ⟨p, v, r, e, h1, h2⟩ := h
    subst e
    exact Bal.cons (by simp [brk]) (Bal.append (yReps_scan H _ _ h1).2 (ih r h2))
theorem yAlt_bal (H : ScanY ya) {t : AltOf α} {u : List Tok} (h : yAlt ya t u) : Bal u := by
  obtain ⟨v, r, e, h1, h2⟩ := h
  subst e
  exact Bal.append (yReps_scan H _ _ h1).2 (yAlts_bal H _ _ h2)
end
theorem yAtom_scan : ∀ n : Nat, ScanY (yAtom n) := by
  intro n
  induction n with
  | zero => intro a u h; exact ySt_scan h
  | succ n ih =>
    intro a u h
    cases a with
    | inl s => exact ySt_scan h
    | inr t =>
      obtain ⟨p, v, q, e, h⟩ := h
      subst e
      exact ⟨ScE.bracket (Or.inl rfl) (by decide : brk 41 = -1) (yAlt_bal ih h), Bal.bracket (by decide : brk 40 = 1) (by decide : brk 41 = -1) (yAlt_bal ih h)⟩
/-- A part of the document's tree. -/
structure Pt where
  op : Int
  left : Int
  right : Int
  low : Int
  high : Int
  step : Int
section
variable {α : Type} (pp : α → Nat → Nat → List Pt) (ss : α → List St)
/-- The parts of a repetition, k parts and m steps being there. The last one is the whole. -/
def repP (x : α × Rep) (k m : Nat) : List Pt :=
  match x.2 with
  | none => pp x.1 k m
  | some (lo, hi) => pp x.1 k m ++ [⟨3, (k : Int) + (pp x.1 k m).length - 1, 0, lo, hi, 0⟩]
def seqS : α × Rep → List (α × Rep) → List St
  | x, [] => ss x.1
  | x, y :: ys => ss x.1 ++ seqS y ys
def seqP : α × Rep → List (α × Rep) → Nat → Nat → List Pt
  | x, [], k, m => repP pp x k m
  | x, y :: ys, k, m =>
    let a := repP pp x k m
    let b := seqP y ys (k + a.length) (m + (ss x.1).length)
    a ++ (b ++ [⟨1, (k : Int) + a.length - 1, (k : Int) + a.length + b.length - 1, 0, 0, 0⟩])
def altS : SeqOf α → List (SeqOf α) → List St
  | s, [] => seqS ss s.1 s.2
  | s, t :: ts => seqS ss s.1 s.2 ++ altS t ts
def altP : SeqOf α → List (SeqOf α) → Nat → Nat → List Pt
  | s, [], k, m => seqP pp ss s.1 s.2 k m
  | s, t :: ts, k, m =>
    let a := seqP pp ss s.1 s.2 k m
    let b := altP t ts (k + a.length) (m + (seqS ss s.1 s.2).length)
    a ++ (b ++ [⟨2, (k : Int) + a.length - 1, (k : Int) + a.length + b.length - 1, 0, 0, 0⟩])
end
def atomS : (n : Nat) → Atom n → List St
  | 0, s => [s]
  | _ + 1, .inl s => [s]
  | n + 1, .inr t => altS (atomS n) t.1 t.2
def atomP : (n : Nat) → Atom n → Nat → Nat → List Pt
  | 0, _, _, m => [⟨0, 0, 0, 0, 0, m⟩]
  | _ + 1, .inl _, _, m => [⟨0, 0, 0, 0, 0, m⟩]
  | n + 1, .inr t, k, m => altP (atomP n) (atomS n) t.1 t.2 k m
end Go.Proofs.YtcboiapggnmpfaaGreat

namespace Go.Proofs.YtcboiapggnmpfaaGreat

structure In where
  op : Int
  a : Int
  b : Int
  test : Tst
def in0 : In := ⟨0, 0, 0, tst0⟩
def tmIsB (t : Tm) : Bool := decide (0 ≤ t.of) && decide (t.of < 6) && decide (0 ≤ t.field) && decide (t.field ≤ 3) && ((decide (t.of = 0) && decide (t.field = 0)) || (!decide (t.of = 0) && decide (t.num = 0)))
def tm0B (t : Tm) : Bool := decide (t.of = 0) && decide (t.field = 0) && decide (t.num = 0)
def tstIsB (t : Tst) : Bool := tmIsB t.left && tmIsB t.right && tmIsB t.more && (!decide (t.arith = 0) || tm0B t.more) && decide (0 ≤ t.rel) && decide (t.rel ≤ 3) && decide (0 ≤ t.arith) && decide (t.arith ≤ 3)
def tst0B (t : Tst) : Bool := tm0B t.left && decide (t.rel = 0) && tm0B t.right && decide (t.arith = 0) && tm0B t.more
def hiOf (op : Int) (n : Int) : Int := if op = 0 then 5 else if op = 3 then 4 else if op = 4 ∨ op = 5 then n else 1
def insIsB (x : In) (n : Int) : Bool :=
  decide (0 ≤ x.op) && decide (x.op ≤ 6) && decide (0 ≤ x.a) && (decide (x.a < hiOf x.op n) || decide (x.op = 1)) && decide (0 ≤ x.b) && decide (x.b < if x.op = 5 then n else 1) &&
    (if x.op = 2 then tstIsB x.test else tst0B x.test)
def endsB (x : In) : Bool := decide (x.op = 4) || decide (x.op = 5) || decide (x.op = 6)
/-- The number of the first that is none, or how many there are. -/
def noneFrom (n : Nat) : Nat → List In → Nat
  | i, [] => i
  | i, x :: r => if insIsB x n = true ∧ (i + 1 = n → endsB x = true) then noneFrom n (i + 1) r else i
def firstNone (l : List In) : Nat := noneFrom l.length 0 l
theorem noneFrom_step {n i : Nat} {x : In} {r : List In} (h : insIsB x n = true) (h2 : i + 1 = n → endsB x = true) : noneFrom n i (x :: r) = noneFrom n (i + 1) r := by
  simp only [noneFrom]; rw [if_pos ⟨h, h2⟩]
theorem noneFrom_stop {n i : Nat} {x : In} {r : List In} (h : ¬ (insIsB x n = true ∧ (i + 1 = n → endsB x = true))) : noneFrom n i (x :: r) = i := by
  simp only [noneFrom]; rw [if_neg h]
theorem noneFrom_le (n : Nat) : ∀ (r : List In) (i : Nat), i ≤ noneFrom n i r ∧ noneFrom n i r ≤ i + r.length := by
  intro r
  induction r with
  | nil => intro i; simp [noneFrom]
  | cons x r ih =>
    intro i
    simp only [noneFrom]
    split
    · have := ih (i + 1); simp only [List.length_cons]; omega
    · simp only [List.length_cons]; omega
theorem noneFrom_all (n : Nat) : ∀ (r : List In) (i : Nat), noneFrom n i r = i + r.length → ∀ k x, r[k]? = some x → insIsB x n = true ∧ (i + k + 1 = n → endsB x = true) := by
  intro r
  induction r with
  | nil => intro i _ k x hx; simp at hx
  | cons y r ih =>
    intro i h k x hx
    simp only [noneFrom] at h
    split at h
    · rename_i hy
      cases k with
      | zero => simp at hx; subst hx; exact hy
      | succ k =>
        simp at hx
        have := ih (i + 1) (by simp only [List.length_cons] at h; omega) k x hx
        refine ⟨this.1, fun e => this.2 (by omega)⟩
    · simp only [List.length_cons] at h; omega
/-- All are instructions, and the last one ends. -/
def AllIns (l : List In) : Prop := ∀ k x, l[k]? = some x → insIsB x l.length = true ∧ (k + 1 = l.length → endsB x = true)
theorem allIns_of {l : List In} (h : firstNone l = l.length) : AllIns l := by
  intro k x hx
  have := noneFrom_all l.length l 0 (by simpa [firstNone] using h) k x hx
  exact ⟨this.1, fun e => this.2 (by omega)⟩
/-- The next instructions of instruction i. -/
def nxt (x : In) (i : Nat) : List Nat :=
  if x.op = 6 then [] else if x.op = 4 then [x.a.toNat] else if x.op = 5 then [x.a.toNat, x.b.toNat] else [i + 1]
theorem nxt_lt {l : List In} (h : AllIns l) {i : Nat} {x : In} (hx : l[i]? = some x) : ∀ j ∈ nxt x i, j < l.length := by
  intro j hj
  obtain ⟨h1, h2⟩ := h i x hx
  have hi : i < l.length := (List.getElem?_eq_some_iff.1 hx).1
  simp only [insIsB, hiOf, Bool.and_eq_true, Bool.or_eq_true, decide_eq_true_eq] at h1
  obtain ⟨⟨⟨⟨⟨⟨a1, a2⟩, a3⟩, a4⟩, a5⟩, a6⟩, _⟩ := h1
  unfold nxt at hj
  split at hj
  · simp at hj
  · split at hj
    · rename_i h6 h4
      simp at hj; subst hj
      simp only [h4] at a4
      simp at a4
      omega
    · split at hj
      · rename_i h6 h4 h5
        simp only [h5] at a4 a6
        simp at a4 a6 hj
        omega
      · rename_i h6 h4 h5
        simp at hj; subst hj
        by_cases e : i + 1 = l.length
        · have := h2 e
          simp [endsB, h4, h5, h6] at this
        · omega
/-- A step from i to j, past no Take (takes: past them too). -/
def Edge (l : List In) (takes : Bool) (i j : Nat) : Prop := ∃ x, l[i]? = some x ∧ (x.op = 0 → takes = true) ∧ j ∈ nxt x i
/-- By one or more steps from i. -/
def Rch (l : List In) (takes : Bool) (i k : Nat) : Prop := ∀ S : Nat → Prop, (∀ j, Edge l takes i j → S j) → (∀ x j, S x → Edge l takes x j → S j) → S k
theorem Rch.one {l : List In} {t : Bool} {i j : Nat} (h : Edge l t i j) : Rch l t i j := fun _ h1 _ => h1 j h
theorem Rch.more {l : List In} {t : Bool} {i x j : Nat} (h : Rch l t i x) (h2 : Edge l t x j) : Rch l t i j := fun S h1 h3 => h3 x j (h S h1 h3) h2
theorem Rch.closed {l : List In} {t : Bool} {i j : Nat} {S : Nat → Prop} (h : Rch l t i j) (h1 : ∀ j, Edge l t i j → S j) (h2 : ∀ x j, S x → Edge l t x j → S j) : S j := h S h1 h2
/-- Where a search stands: q: those that are to be left yet (the others have been left). -/
structure Srch (l : List In) (t : Bool) (i : Nat) (bs : List Bool) (done : Nat → Prop) (q : List Nat) : Prop where
  len : bs.length = l.length
  sound : ∀ j, bs[j]? = some true → Rch l t i j
  seen : ∀ x ∈ q, x = i ∨ bs[x]? = some true
  lt : ∀ x ∈ q, x < l.length
  all : ∀ j, (j = i ∨ bs[j]? = some true) → done j ∨ j ∈ q
  out : ∀ x j, done x → Edge l t x j → bs[j]? = some true
theorem Srch.start (l : List In) (t : Bool) (i : Nat) (hi : i < l.length) : Srch l t i (List.replicate l.length false) (fun _ => False) [i] where
  len := by simp
  sound := by intro j h; simp [List.getElem?_replicate] at h
  seen := by simp
  lt := by simp [hi]
  all := by
    intro j h
    rcases h with h | h
    · exact Or.inr (by simp [h])
    · simp [List.getElem?_replicate] at h
  out := fun _ _ h => False.elim h
theorem Srch.over {l : List In} {t : Bool} {i : Nat} {bs : List Bool} {done : Nat → Prop} (h : Srch l t i bs done []) (j : Nat) : bs[j]? = some true ↔ Rch l t i j := by
  refine ⟨h.sound j, fun hr => ?_⟩
  refine hr.closed (S := fun j => bs[j]? = some true) ?_ ?_
  · intro j he
    rcases h.all i (Or.inl rfl) with hd | hd
    · exact h.out i j hd he
    · simp at hd
  · intro x j hx he
    rcases h.all x (Or.inr hx) with hd | hd
    · exact h.out x j hd he
    · simp at hd
theorem edge_take {l : List In} {x : In} {at' : Nat} (hx : l[at']? = some x) (h0 : x.op = 0) (j : Nat) : ¬ Edge l false at' j := by
  rintro ⟨y, hy, h1, _⟩
  rw [hx] at hy
  cases hy
  have := h1 h0
  cases this
/-- Instruction x is being left: its steps to ys have been looked at. -/
structure Leav (l : List In) (t : Bool) (i : Nat) (bs : List Bool) (done : Nat → Prop) (q : List Nat) (x : Nat) (ys : List Nat) : Prop where
  len : bs.length = l.length
  sound : ∀ j, bs[j]? = some true → Rch l t i j
  here : x = i ∨ bs[x]? = some true
  seen : ∀ x ∈ q, x = i ∨ bs[x]? = some true
  lt : ∀ x ∈ q, x < l.length
  all : ∀ j, (j = i ∨ bs[j]? = some true) → done j ∨ j ∈ q ∨ j = x
  out : ∀ x j, done x → Edge l t x j → bs[j]? = some true
  got : ∀ j ∈ ys, bs[j]? = some true
theorem Srch.leave {l : List In} {t : Bool} {i : Nat} {bs : List Bool} {done : Nat → Prop} {q q' : List Nat} {x : Nat} (h : Srch l t i bs done q) (hx : x ∈ q) (hq : ∀ y, y ∈ q → y = x ∨ y ∈ q') (hq' : ∀ y ∈ q', y ∈ q) : Leav l t i bs done q' x [] where
  len := h.len
  sound := h.sound
  here := h.seen x hx
  seen := fun y hy => h.seen y (hq' y hy)
  lt := fun y hy => h.lt y (hq' y hy)
  all := by
    intro j hj
    rcases h.all j hj with h1 | h1
    · exact Or.inl h1
    · rcases hq j h1 with h2 | h2
      · exact Or.inr (Or.inr h2)
      · exact Or.inr (Or.inl h2)
  out := h.out
  got := by simp
theorem get_set_true {bs : List Bool} {j k : Nat} (h : bs[k]? = some true) : (bs.set j true)[k]? = some true := by
  rw [List.getElem?_set]
  have hk : k < bs.length := (List.getElem?_eq_some_iff.1 h).1
  by_cases e : j = k
  · subst e; simp [hk]
  · simp [e, h]
theorem Leav.mark {l : List In} {t : Bool} {i : Nat} {bs : List Bool} {done : Nat → Prop} {q : List Nat} {x j : Nat} {ys : List Nat} (h : Leav l t i bs done q x ys) (he : Edge l t x j) (hj : j < l.length) : Leav l t i (bs.set j true) done (q ++ [j]) x (ys ++ [j]) where
  len := by simp [h.len]
  sound := by
    intro k hk
    by_cases e : k = j
    · subst e
      rcases h.here with hx | hx
      · subst hx; exact Rch.one he
      · exact (h.sound x hx).more he
    · rw [List.getElem?_set_ne (by omega)] at hk
      exact h.sound k hk
  here := by
    rcases h.here with hx | hx
    · exact Or.inl hx
    · exact Or.inr (get_set_true hx)
  seen := by
    intro y hy
    rcases List.mem_append.1 hy with hy | hy
    · rcases h.seen y hy with e | e
      · exact Or.inl e
      · exact Or.inr (get_set_true e)
    · simp at hy
      subst hy
      right
      rw [List.getElem?_set_self (by rw [h.len]; exact hj)]
  lt := by
    intro y hy
    rcases List.mem_append.1 hy with hy | hy
    · exact h.lt y hy
    · simp at hy; omega
  all := by
    intro k hk
    by_cases e : k = j
    · subst e; exact Or.inr (Or.inl (by simp))
    · have : k = i ∨ bs[k]? = Option.some true := by
        rcases hk with hk | hk
        · exact Or.inl hk
        · rw [List.getElem?_set_ne (by omega)] at hk; exact Or.inr hk
      rcases h.all k this with h1 | h1 | h1
      · exact Or.inl h1
      · exact Or.inr (Or.inl (by simp [h1]))
      · exact Or.inr (Or.inr h1)
  out := fun y k hy hk => get_set_true (h.out y k hy hk)
  got := by
    intro k hk
    rcases List.mem_append.1 hk with hk | hk
    · exact get_set_true (h.got k hk)
    · simp at hk
      subst hk
      rw [List.getElem?_set_self (by rw [h.len]; exact hj)]
theorem Leav.skip {l : List In} {t : Bool} {i : Nat} {bs : List Bool} {done : Nat → Prop} {q : List Nat} {x j : Nat} {ys : List Nat} (h : Leav l t i bs done q x ys) (hj : bs[j]? = some true) : Leav l t i bs done q x (ys ++ [j]) :=
  ⟨h.len, h.sound, h.here, h.seen, h.lt, h.all, h.out, fun k hk => (List.mem_append.1 hk).elim (h.got k) (fun e => by simp at e; subst e; exact hj)⟩
theorem Leav.left {l : List In} {t : Bool} {i : Nat} {bs : List Bool} {done : Nat → Prop} {q : List Nat} {x : Nat} {ys : List Nat} (h : Leav l t i bs done q x ys) (hy : ∀ j, Edge l t x j → j ∈ ys) : Srch l t i bs (fun y => done y ∨ y = x) q where
  len := h.len
  sound := h.sound
  seen := h.seen
  lt := h.lt
  all := by
    intro j hj
    rcases h.all j hj with h1 | h1 | h1
    · exact Or.inl (Or.inl h1)
    · exact Or.inr h1
    · exact Or.inl (Or.inr h1)
  out := by
    intro y j hy' hj
    rcases hy' with h1 | h1
    · exact h.out y j h1 hj
    · subst h1; exact h.got j (hy j hj)
theorem count_set {bs : List Bool} : ∀ {j : Nat}, bs[j]? = some false → (bs.set j true).count false + 1 = bs.count false := by
  induction bs with
  | nil => intro j h; simp at h
  | cons b r ih =>
    intro j h
    cases j with
    | zero => simp at h; subst h; simp
    | succ j =>
      simp at h
      have := ih h
      simp only [List.set_cons_succ, List.count_cons]
      omega
theorem edge_of {l : List In} {t : Bool} {x : Nat} {v : In} (hv : l[x]? = some v) (h0 : v.op = 0 → t = true) {j : Nat} : Edge l t x j ↔ j ∈ nxt v x := by
  constructor
  · rintro ⟨y, hy, _, h2⟩
    rw [hv] at hy; cases hy; exact h2
  · intro h; exact ⟨v, hv, h0, h⟩
/-- The least number, from i on, of an instruction that lies on a round without a Take, or how many there are. -/
def RndFrom (l : List In) (i k : Nat) : Prop := i ≤ k ∧ k ≤ l.length ∧ (∀ j, i ≤ j → j < k → ¬ Rch l false j j) ∧ (k < l.length → Rch l false k k)
theorem RndFrom.uniq {l : List In} {i k m : Nat} (h : RndFrom l i k) (h' : RndFrom l i m) : k = m := by
  obtain ⟨a1, a2, a3, a4⟩ := h
  obtain ⟨b1, b2, b3, b4⟩ := h'
  rcases Nat.lt_trichotomy k m with e | e | e
  · exact absurd (a4 (by omega)) (b3 k a1 e)
  · exact e
  · exact absurd (b4 (by omega)) (a3 m b1 e)
theorem rch_take {l : List In} {x : In} {i : Nat} (hx : l[i]? = some x) (h0 : x.op = 0) : ¬ Rch l false i i := by
  intro h
  exact h.closed (S := fun _ => False) (fun j hj => edge_take hx h0 j hj) (fun _ _ h _ => h)
end Go.Proofs.YtcboiapggnmpfaaGreat

namespace Go.Proofs.YtcboiapggnmpfaaGreat
/-- What Valid answers (P7). -/
def ValidIs (l : List In) (e a : Int) : Prop :=
  (1000 < l.length ∧ e = 5 ∧ a = 0) ∨ (l.length ≤ 1000 ∧ (l = [] ∨ firstNone l < l.length) ∧ e = 7 ∧ a = firstNone l) ∨
  (l.length ≤ 1000 ∧ ¬ l = [] ∧ firstNone l = l.length ∧ ∃ k : Nat, RndFrom l 0 k ∧ k < l.length ∧ e = 8 ∧ a = k) ∨
  (l.length ≤ 1000 ∧ ¬ l = [] ∧ firstNone l = l.length ∧ RndFrom l 0 l.length ∧ e = 0 ∧ a = 0)
theorem ValidIs.uniq {l : List In} {e a f b : Int} (h : ValidIs l e a) (h' : ValidIs l f b) : e = f ∧ a = b := by
  rcases h with ⟨h1, h2, h3⟩ | ⟨h1, h2, h3, h4⟩ | ⟨h1, h2, h3, k, h4, h5, h6, h7⟩ | ⟨h1, h2, h3, h4, h5, h6⟩ <;>
  rcases h' with ⟨g1, g2, g3⟩ | ⟨g1, g2, g3, g4⟩ | ⟨g1, g2, g3, k', g4, g5, g6, g7⟩ | ⟨g1, g2, g3, g4, g5, g6⟩ <;>
  (try omega)
  · rcases h2 with h2 | h2
    · exact absurd h2 g2
    · omega
  · rcases h2 with h2 | h2
    · exact absurd h2 g2
    · omega
  · rcases g2 with g2 | g2
    · exact absurd g2 h2
    · omega
  · have := h4.uniq g4; omega
  · have := h4.uniq g4; omega
  · rcases g2 with g2 | g2
    · exact absurd g2 h2
    · omega
  · have := h4.uniq g4; omega
theorem RndFrom.step {l : List In} {i k : Nat} (h : RndFrom l (i + 1) k) (hi : ¬ Rch l false i i) : RndFrom l i k := by
  obtain ⟨a1, a2, a3, a4⟩ := h
  refine ⟨by omega, a2, ?_, a4⟩
  intro j hj hk
  by_cases e : j = i
  · subst e; exact hi
  · exact a3 j (by omega) hk
theorem rnd_from {l : List In} {i : Nat} (h : ∀ j, j < i → ¬ Rch l false j j) (hi : i < l.length) (hr : Rch l false i i) : RndFrom l 0 i := ⟨by omega, by omega, fun j _ hj => h j hj, fun _ => hr⟩
theorem rnd_none {l : List In} (h : ∀ j, j < l.length → ¬ Rch l false j j) : RndFrom l 0 l.length := ⟨by omega, by omega, fun j _ hj => h j hj, fun h => absurd h (by omega)⟩
theorem firstNone_nil : firstNone [] = 0 := rfl
theorem drop_cons {l : List In} {i : Nat} {x : In} (h : l[i]? = some x) : l.drop i = x :: l.drop (i + 1) := by
  obtain ⟨h1, h2⟩ := List.getElem?_eq_some_iff.1 h
  rw [List.drop_eq_getElem_cons h1, h2]
end Go.Proofs.YtcboiapggnmpfaaGreat

namespace Go.Proofs.YtcboiapggnmpfaaGreat

def runF : Fm → List Tok → Option Fm
  | f, [] => some f
  | f, (c, _) :: r =>
    match nextF f c with
    | none => none
    | some g => runF g r
theorem runF_append {f g : Fm} {u v : List Tok} (h : runF f u = some g) : runF f (u ++ v) = runF g v := by
  induction u generalizing f with
  | nil => simp [runF] at h; subst h; rfl
  | cons t u ih =>
    obtain ⟨c, p⟩ := t
    simp only [runF, List.cons_append] at h ⊢
    cases e : nextF f c with
    | none => simp [e] at h
    | some k => simp only [e] at h ⊢; exact ih h
/-- Nothing of what is left can stand there. -/
def bad (f : Fm) : List Tok → Prop
  | [] => overF f = false
  | (c, _) :: _ => nextF f c = none
/-- What a reader's answer says of the table's states. -/
def Goes {α : Type} (r : Option α × List Tok) (l : List Tok) (f : Fm) (post : Fm → List Tok → Prop) : Prop :=
  ∃ u g, l = u ++ r.2 ∧ runF f u = some g ∧ (∀ a, r.1 = some a → post g r.2) ∧ (r.1 = none → bad g r.2)
theorem Goes.stop {α : Type} {l : List Tok} {f : Fm} {post : Fm → List Tok → Prop} (h : bad f l) : Goes ((none, l) : Option α × List Tok) l f post :=
  ⟨[], f, rfl, rfl, (fun _ e => by cases e), fun _ => h⟩
theorem Goes.here {α : Type} {a : α} {l : List Tok} {f : Fm} {post : Fm → List Tok → Prop} (h : post f l) : Goes (some a, l) l f post :=
  ⟨[], f, rfl, rfl, fun _ _ => h, fun e => by cases e⟩
theorem Goes.cons {α : Type} {r : Option α × List Tok} {c : Int} {p : Nat} {l : List Tok} {f g : Fm} {post : Fm → List Tok → Prop} (e : nextF f c = some g) (h : Goes r l g post) : Goes r ((c, p) :: l) f post := by
  obtain ⟨u, k, h1, h2, h3, h4⟩ := h
  exact ⟨(c, p) :: u, k, by rw [h1]; rfl, by simp [runF, e, h2], h3, h4⟩
/-- One reader behind another: the first came to x. -/
theorem Goes.andThen {α β : Type} {r : Option α × List Tok} {s : Option β × List Tok} {l : List Tok} {f : Fm} {p1 p2 : Fm → List Tok → Prop}
    (h : Goes r l f p1) (hs : ∀ a, r.1 = some a → ∀ g, p1 g r.2 → Goes s r.2 g p2) (hn : r.1 = none → s.1 = none ∧ s.2 = r.2) : Goes s l f p2 := by
  obtain ⟨u, g, h1, h2, h3, h4⟩ := h
  cases e : r.1 with
  | none =>
    obtain ⟨e1, e2⟩ := hn e
    exact ⟨u, g, by rw [e2]; exact h1, h2, (fun a ha => by rw [e1] at ha; cases ha), fun _ => by rw [e2]; exact h4 e⟩
  | some a =>
    obtain ⟨v, k, k1, k2, k3, k4⟩ := hs a e g (h3 a e)
    exact ⟨u ++ v, k, by rw [h1, k1, List.append_assoc], by rw [runF_append h2]; exact k2, k3, k4⟩

/-- Behind a term: what comes is looked at by 'tested'. -/
def Termed (d : Int) (t : Int) (g : Fm) : List Tok → Prop
  | [] => g.op = d ∧ g.tm = t ∧ overF g = false
  | (c, _) :: _ => g.op = d ∧ g.tm = t ∧ nextF g c = testedF g c
theorem nextF_8 (f : Fm) (c : Int) (h : f.st = 8) : nextF f c = termedF f c := by simp [nextF, h]
theorem nextF_9 (f : Fm) (c : Int) (h : f.st = 9) : nextF f c = termedF f c := by simp [nextF, h]
theorem nextF_10 (f : Fm) (c : Int) (h : f.st = 10) : nextF f c = termedF f c := by simp [nextF, h]
theorem nextF_11 (f : Fm) (c : Int) (h : f.st = 11) : nextF f c = testedF f c := by simp [nextF, h]

theorem pNum_term : ∀ (l : List Tok) (acc : Int) (k : Nat) (f : Fm), 1 ≤ k → k ≤ 18 → f.st = 10 → f.dg = k → Goes (pNum acc k l) l f (fun g x => Termed f.op f.tm g x) := by
  intro l
  induction l with
  | nil =>
    intro acc k f h1 h2 hs hd
    have hk : ¬ k = 0 := by omega
    simp only [pNum, if_neg hk]
    exact Goes.here ⟨rfl, rfl, by simp [overF, hs]⟩
  | cons t l ih =>
    obtain ⟨c, p⟩ := t
    intro acc k f h1 h2 hs hd
    have hk : ¬ k = 0 := by omega
    simp only [pNum]
    by_cases hc : isDigitB c = true
    · simp only [if_pos hc]
      by_cases h18 : k = 18
      · simp only [if_pos h18]
        refine Goes.stop ?_
        show nextF f c = none
        rw [nextF_10 f c hs]
        simp [termedF, hs, hc, hd, h18]
      · simp only [if_neg h18]
        have hn : nextF f c = some { f with dg := f.dg + 1 } := by
          rw [nextF_10 f c hs]
          have h' : f.dg + 1 ≤ 18 := by omega
          simp [termedF, hs, hc, h']
        exact Goes.cons hn (ih _ _ _ (by omega) (by omega) hs (by simp [hd]))
    · simp only [if_neg hc, if_neg hk]
      refine Goes.here ⟨rfl, rfl, ?_⟩
      rw [nextF_10 f c hs]
      simp [termedF, hs, hc]
theorem pField_goes (of : Int) (l : List Tok) (f : Fm) (h : f.st = 9 ∨ (f.st = 8 ∧ ∀ c p r, l = (c, p) :: r → isDigitB c = false ∧ isNameB c = false)) : Goes (pField of l) l f (fun g x => Termed f.op f.tm g x) := by
  have ho : overF f = false := by rcases h with h | ⟨h, _⟩ <;> simp [overF, h]
  match l with
  | [] => exact Goes.stop ho
  | (c, p) :: r =>
    have hn : nextF f c = if isFieldB c = true then some { f with st := 11 } else none := by
      rcases h with h | ⟨h, hc⟩
      · rw [nextF_9 f c h]; simp [termedF, h]
      · obtain ⟨h1, h2⟩ := hc c p r rfl
        rw [nextF_8 f c h]; simp [termedF, h, h1, h2]
    simp only [pField]
    by_cases hf : isFieldB c = true
    · simp only [if_pos hf] at hn ⊢
      refine Goes.cons hn (Goes.here ?_)
      match r with
      | [] => exact ⟨rfl, rfl, by simp [overF]⟩
      | (d, q) :: r => exact ⟨rfl, rfl, nextF_11 _ d rfl⟩
    · simp only [if_neg hf] at hn ⊢
      exact Goes.stop hn
theorem pTerm_goes (l : List Tok) (f : Fm) (h : f.st = 8) : Goes (pTerm l) l f (fun g x => Termed f.op f.tm g x) := by
  match l with
  | [] => exact Goes.stop (by simp [bad, overF, h])
  | (c, p) :: r =>
    simp only [pTerm]
    by_cases hd : isDigitB c = true
    · simp only [if_pos hd]
      have hn : nextF f c = some { f with st := 10, dg := 1 } := by rw [nextF_8 f c h]; simp [termedF, h, hd]
      have e : pNum 0 0 ((c, p) :: r) = pNum (10 * 0 + (c - 48)) 1 r := by simp [pNum, hd]
      rw [e]
      have g := Goes.cons (p := p) hn (pNum_term r (10 * 0 + (c - 48)) 1 { f with st := 10, dg := 1 } (by omega) (by omega) rfl rfl)
      obtain ⟨u, k, h1, h2, h3, h4⟩ := g
      revert h1 h3 h4
      generalize pNum (10 * 0 + (c - 48)) 1 r = x
      intro h1 h3 h4
      match x with
      | (some v, x) => exact ⟨u, k, h1, h2, fun a _ => h3 v rfl, fun e => by cases e⟩
      | (none, x) => exact ⟨u, k, h1, h2, (fun a e => by cases e), fun _ => h4 rfl⟩
    · simp only [if_neg hd]
      by_cases hm : isNameB c = true
      · simp only [if_pos hm]
        have hn : nextF f c = some { f with st := 9 } := by rw [nextF_8 f c h]; simp [termedF, h, hd, hm]
        exact Goes.cons hn (pField_goes _ r { f with st := 9 } (Or.inl rfl))
      · simp only [if_neg hm]
        refine pField_goes _ _ f (Or.inr ⟨h, ?_⟩)
        intro c' p' r' e
        cases e
        exact ⟨by simpa using hd, by simpa using hm⟩

/-- Behind a whole test. -/
def Tested (d : Int) (g : Fm) (x : List Tok) : Prop :=
  (Termed d 1 g x ∧ ∀ c p r, x = (c, p) :: r → isArithB c = false) ∨ Termed d 2 g x
theorem isArith_iff (c : Int) : isArithB c = true ↔ (c = 43 ∨ c = 45 ∨ c = 42) := by simp [isArithB, or_assoc]
theorem testedF_rel (g : Fm) (c : Int) (h : g.tm = 0) : testedF g c = if isRelB c = true then some { g with tm := 1, st := 8 } else none := by
  simp [testedF, h]
theorem pTail_goes (a : Tm) (c : Int) (b : Tm) (l : List Tok) (d : Int) (f : Fm) (h : Termed d 1 f l) : Goes (pTail a c b l) l f (fun g x => Tested d g x) := by
  match l, h with
  | [], h => exact Goes.here (Or.inl ⟨h, by intro c p r e; cases e⟩)
  | (e, q) :: r, h =>
    obtain ⟨h1, h2, h3⟩ := h
    simp only [pTail]
    by_cases hd : isArithB e = true
    · simp only [if_pos hd]
      have hn : nextF f e = some { f with tm := 2, st := 8 } := by
        rw [h3]; have hd' := (isArith_iff e).1 hd; simp [testedF, h2, hd']
      refine Goes.cons hn ?_
      refine Goes.andThen (pTerm_goes r { f with tm := 2, st := 8 } rfl) ?_ ?_
      · intro m hm g hg
        revert hm hg
        generalize pTerm r = y
        obtain ⟨y1, y2⟩ := y
        intro hm hg
        simp only at hm
        subst hm
        exact Goes.here (Or.inr (by rw [← h1]; exact hg))
      · generalize pTerm r = y
        obtain ⟨y1, y2⟩ := y
        intro hm
        simp only at hm
        subst hm
        exact ⟨rfl, rfl⟩
    · simp only [if_neg hd]
      refine Goes.here (Or.inl ⟨⟨h1, h2, h3⟩, ?_⟩)
      intro c p r e; cases e; simpa using hd
theorem pTest_goes (l : List Tok) (f : Fm) (h : f.st = 8) (h0 : f.tm = 0) : Goes (pTest l) l f (fun g x => Tested f.op g x) := by
  refine Goes.andThen (pTerm_goes l f h) ?_ ?_
  · intro a ha g hg
    unfold pTest
    revert ha hg
    generalize pTerm l = y
    obtain ⟨y1, y2⟩ := y
    intro ha hg
    simp only at ha hg
    subst ha
    match y2, hg with
    | [], hg => exact Goes.stop hg.2.2
    | (c, p) :: r, hg =>
      obtain ⟨g1, g2, g3⟩ := hg
      rw [h0] at g2
      rw [testedF_rel g c g2] at g3
      simp only
      by_cases hr : isRelB c = true
      · simp only [if_pos hr] at g3 ⊢
        refine Goes.cons g3 ?_
        refine Goes.andThen (pTerm_goes r { g with tm := 1, st := 8 } rfl) ?_ ?_
        · intro b hb k hk
          revert hb hk
          generalize pTerm r = z
          obtain ⟨z1, z2⟩ := z
          intro hb hk
          simp only at hb hk
          subst hb
          exact pTail_goes a c b z2 f.op k (by rw [← g1]; exact hk)
        · generalize pTerm r = z
          obtain ⟨z1, z2⟩ := z
          intro hb
          simp only at hb
          subst hb
          exact ⟨rfl, rfl⟩
      · simp only [if_neg hr] at g3 ⊢
        exact Goes.stop g3
  · unfold pTest
    generalize pTerm l = y
    obtain ⟨y1, y2⟩ := y
    intro hb
    simp only at hb
    subst hb
    exact ⟨rfl, rfl⟩
theorem Tested.next {d : Int} {g : Fm} {c : Int} {p : Nat} {r : List Tok} (h : Tested d g ((c, p) :: r)) :
    g.op = d ∧ nextF g c = if c = 38 then some { g with tm := 0, st := 8 } else if c = 93 then some { g with st := 3 } else none := by
  rcases h with ⟨⟨h1, h2, h3⟩, h4⟩ | ⟨h1, h2, h3⟩
  · refine ⟨h1, ?_⟩
    have h5 := h4 c p r rfl
    have h6 : ¬ (c = 43 ∨ c = 45 ∨ c = 42) := by rw [← isArith_iff, h5]; simp
    rw [h3]
    simp [testedF, h2, h6]
  · refine ⟨h1, ?_⟩
    rw [h3]
    simp [testedF, h2]
theorem Goes.le {α : Type} {r : Option α × List Tok} {l : List Tok} {f : Fm} {post : Fm → List Tok → Prop} (h : Goes r l f post) : r.2.length ≤ l.length := by
  obtain ⟨u, g, h1, _⟩ := h
  rw [h1]; simp
/-- Behind an atom, no repetition yet. -/
def AfterAtom (d : Int) (g : Fm) : List Tok → Prop
  | [] => g.op = d ∧ overF g = (g.op == 0)
  | (c, _) :: _ => g.op = d ∧ nextF g c = wholeF g c
theorem afterAtom_3 {d : Int} {g : Fm} (h : g.st = 3) (ho : g.op = d) (x : List Tok) : AfterAtom d g x := by
  match x with
  | [] => exact ⟨ho, by simp [overF, h]⟩
  | (c, p) :: r => exact ⟨ho, by simp [nextF, h]⟩
theorem pTests_goes : ∀ (n : Nat) (l : List Tok) (f : Fm), l.length < n → f.st = 8 → f.tm = 0 → Goes (pTests n l) l f (fun g x => AfterAtom f.op g x) := by
  intro n
  induction n with
  | zero => intro l f h; omega
  | succ n ih =>
    intro l f hl h h0
    have hle := (pTest_goes l f h h0).le
    refine Goes.andThen (pTest_goes l f h h0) ?_ ?_
    · intro a ha g hg
      simp only [pTests]
      revert ha hg hle
      generalize pTest l = y
      obtain ⟨y1, y2⟩ := y
      intro hle ha hg
      simp only at ha hg hle
      subst ha
      match y2, hg, hle with
      | [], hg, _ =>
        rcases hg with ⟨hg, _⟩ | hg
        · exact Goes.stop hg.2.2
        · exact Goes.stop hg.2.2
      | (c, p) :: r, hg, hle =>
        obtain ⟨g1, g2⟩ := hg.next
        simp only
        by_cases hc : c = 38
        · simp only [if_pos hc] at g2 ⊢
          refine Goes.cons g2 ?_
          have hlr : r.length < n := by simp at hle; omega
          have hi := ih r { g with tm := 0, st := 8 } hlr rfl rfl
          refine Goes.andThen hi ?_ ?_
          · revert hi
            generalize pTests n r = z
            obtain ⟨z1, z2⟩ := z
            intro hi b hb k hk
            simp only at hb hk
            subst hb
            exact Goes.here (by rw [← g1]; exact hk)
          · generalize pTests n r = z
            obtain ⟨z1, z2⟩ := z
            intro hb
            simp only at hb
            subst hb
            exact ⟨rfl, rfl⟩
        · simp only [if_neg hc] at g2 ⊢
          by_cases hc2 : c = 93
          · simp only [if_pos hc2] at g2 ⊢
            exact Goes.cons g2 (Goes.here (afterAtom_3 (g := { g with st := 3 }) rfl g1 _))
          · simp only [if_neg hc2] at g2 ⊢
            exact Goes.stop g2
    · simp only [pTests]
      generalize pTest l = y
      obtain ⟨y1, y2⟩ := y
      intro hb
      simp only at hb
      subst hb
      exact ⟨rfl, rfl⟩

/-- An atom may begin here. -/
def PreA (f : Fm) : List Tok → Prop
  | [] => overF f = false
  | (c, _) :: _ => nextF f c = freshF f c
theorem pStep_goes (l : List Tok) (f : Fm) (h : PreA f l) (h40 : ∀ p r, l = ((40 : Int), p) :: r → ¬ f.op < 8) : Goes (pStep l) l f (fun g x => AfterAtom f.op g x) := by
  match l, h with
  | [], h => exact Goes.stop h
  | (c, p) :: r, h =>
    simp only [PreA] at h
    simp only [pStep]
    by_cases hk : isKindB c = true
    · simp only [if_pos hk]
      have hn : nextF f c = some { f with st := 1 } := by rw [h]; simp [freshF, hk]
      refine Goes.cons hn ?_
      -- behind the kind: a name, then a box
      have hb : ∀ (k : Fm) (x : List Tok), k.op = f.op → (k.st = 1 ∧ (∀ c p r, x = (c, p) :: r → isNameB c = false) ∨ k.st = 2) → Goes (pBox x) x k (fun g y => AfterAtom f.op g y) := by
        intro k x ho hk2
        match x with
        | [] =>
          refine Goes.here ⟨ho, ?_⟩
          rcases hk2 with ⟨e, _⟩ | e <;> simp [overF, e]
        | (d, q) :: y =>
          have hnx : nextF k d = if d = 91 then some { k with st := 8, tm := 0 } else wholeF k d := by
            rcases hk2 with ⟨e, hnm⟩ | e
            · have := hnm d q y rfl
              simp [nextF, e, this]
            · simp [nextF, e]
          simp only [pBox]
          by_cases h91 : d = 91
          · simp only [if_pos h91] at hnx ⊢
            refine Goes.cons hnx ?_
            have := pTests_goes (y.length + 1) y { k with st := 8, tm := 0 } (by omega) rfl rfl
            rw [← ho]
            exact this
          · simp only [if_neg h91] at hnx ⊢
            exact Goes.here ⟨ho, hnx⟩
      have hg : Goes (pBox (pName r).2) r { f with st := 1 } (fun g y => AfterAtom f.op g y) := by
        match r with
        | [] => exact hb { f with st := 1 } [] rfl (Or.inl ⟨rfl, by intro c p r e; cases e⟩)
        | (d, q) :: y =>
          simp only [pName]
          by_cases hnm : isNameB d = true
          · simp only [if_pos hnm]
            refine Goes.cons (g := { f with st := 2 }) ?_ (hb { f with st := 2 } y rfl (Or.inr rfl))
            simp [nextF, hnm]
          · simp only [if_neg hnm]
            exact hb { f with st := 1 } _ rfl (Or.inl ⟨rfl, by intro c p r e; cases e; simpa using hnm⟩)
      refine Goes.andThen hg ?_ ?_
      · generalize pBox (pName r).2 = z
        obtain ⟨z1, z2⟩ := z
        intro b hb' k hk'
        simp only at hb' hk'
        subst hb'
        exact Goes.here hk'
      · generalize pBox (pName r).2 = z
        obtain ⟨z1, z2⟩ := z
        intro hb'
        simp only at hb'
        subst hb'
        exact ⟨rfl, rfl⟩
    · simp only [if_neg hk]
      refine Goes.stop ?_
      show nextF f c = none
      rw [h]
      by_cases hc : c = 40
      · subst hc
        simp [freshF, hk, h40 p r rfl]
      · simp [freshF, hk, hc]
/-- Behind an atom and its repetition, if it has one. -/
def AfterRep (d : Int) (g : Fm) : List Tok → Prop
  | [] => g.op = d ∧ overF g = (g.op == 0)
  | (c, _) :: _ => g.op = d ∧ nextF g c = behindF g c
theorem afterRep_4 {d : Int} {g : Fm} (h : g.st = 4) (ho : g.op = d) (x : List Tok) : AfterRep d g x := by
  match x with
  | [] => exact ⟨ho, by simp [overF, h]⟩
  | (c, p) :: r => exact ⟨ho, by simp [nextF, h]⟩
theorem pRepS_goes (l : List Tok) (d : Int) (f : Fm) (h : AfterAtom d f l) : Goes (pRepS l) l f (fun g x => AfterRep d g x) := by
  match l, h with
  | [], h => exact Goes.here h
  | (c, p) :: r, h =>
    obtain ⟨ho, hn⟩ := h
    simp only [pRepS]
    by_cases h1 : c = 42
    · simp only [if_pos h1]
      exact Goes.cons (g := { f with st := 4 }) (by rw [hn]; simp [wholeF, h1]) (Goes.here (afterRep_4 (g := { f with st := 4 }) rfl ho _))
    simp only [if_neg h1]
    by_cases h2 : c = 43
    · simp only [if_pos h2]
      exact Goes.cons (g := { f with st := 4 }) (by rw [hn]; simp [wholeF, h2]) (Goes.here (afterRep_4 (g := { f with st := 4 }) rfl ho _))
    simp only [if_neg h2]
    by_cases h3 : c = 63
    · simp only [if_pos h3]
      exact Goes.cons (g := { f with st := 4 }) (by rw [hn]; simp [wholeF, h3]) (Goes.here (afterRep_4 (g := { f with st := 4 }) rfl ho _))
    simp only [if_neg h3]
    by_cases h4 : c = 123
    · simp only [if_pos h4]
      refine Goes.cons (g := { f with st := 5 }) (by rw [hn]; simp [wholeF, h4]) ?_
      match r with
      | [] => exact Goes.stop (by simp [bad, overF])
      | (a, q) :: r =>
        simp only [pLow]
        by_cases ha : isDigitB a = true
        · simp only [if_pos ha]
          refine Goes.cons (g := { f with st := 6, lw := a - 48 }) (by simp [nextF, bracedF, ha]) ?_
          match r with
          | [] => exact Goes.stop (by simp [bad, overF])
          | (b, q) :: r =>
            simp only [pHigh]
            by_cases hb : isDigitB b = true ∧ 48 < b ∧ a - 48 ≤ b - 48
            · simp only [if_pos hb]
              refine Goes.cons (g := { f with st := 7, lw := a - 48 }) (by simp only [nextF, bracedF]; simp [hb.1, hb.2.1]; omega) ?_
              match r with
              | [] => exact Goes.stop (by simp [bad, overF])
              | (e, q) :: r =>
                simp only [pClose]
                by_cases he : e = 125
                · simp only [if_pos he]
                  exact Goes.cons (g := { f with st := 4, lw := a - 48 }) (by simp [nextF, bracedF, he]) (Goes.here (afterRep_4 (g := { f with st := 4, lw := a - 48 }) rfl ho _))
                · simp only [if_neg he]
                  exact Goes.stop (by simp [bad, nextF, bracedF, he])
            · simp only [if_neg hb]
              refine Goes.stop ?_
              simp only [bad, nextF, bracedF]
              simp
              intro x1 x2
              by_cases x3 : a - 48 ≤ b - 48
              · exact absurd ⟨x1, x2, x3⟩ hb
              · omega
        · simp only [if_neg ha]
          exact Goes.stop (by simp [bad, nextF, bracedF, ha])
    · simp only [if_neg h4]
      refine Goes.here ⟨ho, ?_⟩
      rw [hn]
      simp [wholeF, h1, h2, h3, h4]

/-- What is asked of the reader of atoms, at depth d. -/
def AtomGoes {α : Type} (pa : List Tok → Option α × List Tok) (d : Int) : Prop :=
  ∀ l f, PreA f l → f.op = d → Goes (pa l) l f (fun g x => AfterAtom d g x) ∧ (∀ a, (pa l).1 = some a → (pa l).2.length < l.length)
section
variable {α : Type} {pa : List Tok → Option α × List Tok} {d : Int}
theorem pRep_goes (H : AtomGoes pa d) (l : List Tok) (f : Fm) (h : PreA f l) (ho : f.op = d) :
    Goes (pRep pa l) l f (fun g x => AfterRep d g x) ∧ (∀ a, (pRep pa l).1 = some a → (pRep pa l).2.length < l.length) := by
  obtain ⟨H1, H2⟩ := H l f h ho
  refine ⟨Goes.andThen H1 ?_ ?_, ?_⟩
  · unfold pRep
    generalize pa l = y
    obtain ⟨y1, y2⟩ := y
    intro a ha g hg
    simp only at ha hg
    subst ha
    have hr := pRepS_goes y2 d g hg
    refine Goes.andThen hr ?_ ?_
    · simp only
      generalize pRepS y2 = z
      obtain ⟨z1, z2⟩ := z
      intro b hb k hk
      simp only at hb hk
      subst hb
      exact Goes.here hk
    · simp only
      generalize pRepS y2 = z
      obtain ⟨z1, z2⟩ := z
      intro hb
      simp only at hb
      subst hb
      exact ⟨rfl, rfl⟩
  · unfold pRep
    generalize pa l = y
    obtain ⟨y1, y2⟩ := y
    intro hb
    simp only at hb
    subst hb
    exact ⟨rfl, rfl⟩
  · obtain ⟨u, g, h1, h2, h3, h4⟩ := H1
    unfold pRep
    revert H2 h1 h3 h4
    generalize pa l = y
    obtain ⟨y1, y2⟩ := y
    intro H2 h1 h3 h4 a
    cases y1 with
    | none => intro e; cases e
    | some a' =>
      have hlt := H2 a' rfl
      have hle := (pRepS_goes y2 d g (h3 a' rfl)).le
      simp only at hlt
      revert hle
      simp only
      generalize pRepS y2 = z
      obtain ⟨z1, z2⟩ := z
      intro hle
      cases z1 with
      | none => intro e; cases e
      | some z1 => intro _; simp only at hle ⊢; omega
/-- Behind a row of atoms: no other atom comes. -/
def AfterSeq (d : Int) (g : Fm) (x : List Tok) : Prop :=
  AfterRep d g x ∧ ∀ c p r, x = (c, p) :: r → ¬ c = 40 ∧ isKindB c = false
theorem preA_of {g : Fm} {c : Int} {p : Nat} {r : List Tok} (h : AfterRep d g ((c, p) :: r)) (hc : c = 40 ∨ isKindB c = true) : PreA g ((c, p) :: r) := by
  have e : nextF g c = behindF g c := h.2
  show nextF g c = freshF g c
  rw [e]
  have h1 : ¬ c = 124 := by rcases hc with rfl | h; · decide
                            · intro e; subst e; simp [isKindB] at h
  have h2 : ¬ c = 41 := by rcases hc with rfl | h; · decide
                           · intro e; subst e; simp [isKindB] at h
  have h3 : ¬ c = 64 := by rcases hc with rfl | h; · decide
                           · intro e; subst e; simp [isKindB] at h
  simp [behindF, h1, h2, h3]
theorem pMore_goes (H : AtomGoes pa d) : ∀ (n : Nat) (l : List Tok) (f : Fm), l.length ≤ n → AfterRep d f l → Goes (pMore pa n l) l f (fun g x => AfterSeq d g x) := by
  intro n
  induction n with
  | zero =>
    intro l f hl h
    have : l = [] := List.eq_nil_of_length_eq_zero (by omega)
    subst this
    exact Goes.here ⟨h, by intro c p r e; cases e⟩
  | succ n ih =>
    intro l f hl h
    match l, h, hl with
    | [], h, _ => exact Goes.here ⟨h, by intro c p r e; cases e⟩
    | (c, p) :: r, h, hl =>
      simp only [pMore]
      by_cases hc : c = 40 ∨ isKindB c = true
      · simp only [if_pos hc]
        obtain ⟨H1, H2⟩ := pRep_goes H ((c, p) :: r) f (preA_of h hc) h.1
        refine Goes.andThen H1 ?_ ?_
        · revert H2
          generalize pRep pa ((c, p) :: r) = y
          obtain ⟨y1, y2⟩ := y
          intro H2 a ha g hg
          simp only at ha hg H2
          subst ha
          have hlt := H2 a rfl
          have hi := ih y2 g (by simp at hl hlt; omega) hg
          refine Goes.andThen hi ?_ ?_
          · simp only
            generalize pMore pa n y2 = z
            obtain ⟨z1, z2⟩ := z
            intro b hb k hk
            simp only at hb hk
            subst hb
            exact Goes.here hk
          · simp only
            generalize pMore pa n y2 = z
            obtain ⟨z1, z2⟩ := z
            intro hb
            simp only at hb
            subst hb
            exact ⟨rfl, rfl⟩
        · generalize pRep pa ((c, p) :: r) = y
          obtain ⟨y1, y2⟩ := y
          intro hb
          simp only at hb
          subst hb
          exact ⟨rfl, rfl⟩
      · simp only [if_neg hc]
        refine Goes.here ⟨h, ?_⟩
        intro c' p' r' e
        cases e
        refine ⟨fun e => hc (Or.inl e), ?_⟩
        cases hk : isKindB c with
        | false => rfl
        | true => exact absurd (Or.inr hk) hc
theorem pSeq_goes (H : AtomGoes pa d) (l : List Tok) (f : Fm) (h : PreA f l) (ho : f.op = d) : Goes (pSeq pa l) l f (fun g x => AfterSeq d g x) := by
  obtain ⟨H1, H2⟩ := pRep_goes H l f h ho
  refine Goes.andThen H1 ?_ ?_
  · unfold pSeq
    generalize pRep pa l = y
    obtain ⟨y1, y2⟩ := y
    intro a ha g hg
    simp only at ha hg
    subst ha
    have hi := pMore_goes H y2.length y2 g (Nat.le_refl _) hg
    refine Goes.andThen hi ?_ ?_
    · simp only
      generalize pMore pa y2.length y2 = z
      obtain ⟨z1, z2⟩ := z
      intro b hb k hk
      simp only at hb hk
      subst hb
      exact Goes.here hk
    · simp only
      generalize pMore pa y2.length y2 = z
      obtain ⟨z1, z2⟩ := z
      intro hb
      simp only at hb
      subst hb
      exact ⟨rfl, rfl⟩
  · unfold pSeq
    generalize pRep pa l = y
    obtain ⟨y1, y2⟩ := y
    intro hb
    simp only at hb
    subst hb
    exact ⟨rfl, rfl⟩
/-- Behind an alternative: neither an atom nor a bar comes. -/
def AfterAlt (d : Int) (g : Fm) (x : List Tok) : Prop :=
  AfterSeq d g x ∧ ∀ c p r, x = (c, p) :: r → ¬ c = 124
theorem preA_0 {g : Fm} (h : g.st = 0) (x : List Tok) : PreA g x := by
  match x with
  | [] => simp [PreA, overF, h]
  | (c, p) :: r => simp [PreA, nextF, h]
theorem pAlts_goes (H : AtomGoes pa d) : ∀ (n : Nat) (l : List Tok) (f : Fm), l.length ≤ n → AfterSeq d f l → Goes (pAlts pa n l) l f (fun g x => AfterAlt d g x) := by
  intro n
  induction n with
  | zero =>
    intro l f hl h
    have : l = [] := List.eq_nil_of_length_eq_zero (by omega)
    subst this
    exact Goes.here ⟨h, by intro c p r e; cases e⟩
  | succ n ih =>
    intro l f hl h
    match l, h, hl with
    | [], h, _ => exact Goes.here ⟨h, by intro c p r e; cases e⟩
    | (c, p) :: r, h, hl =>
      simp only [pAlts]
      by_cases hc : c = 124
      · simp only [if_pos hc]
        have hn : nextF f c = some { f with st := 0 } := by rw [h.1.2]; simp [behindF, hc]
        refine Goes.cons hn ?_
        have H1 := pSeq_goes H r { f with st := 0 } (preA_0 rfl _) h.1.1
        have hle := H1.le
        refine Goes.andThen H1 ?_ ?_
        · revert hle
          generalize pSeq pa r = y
          obtain ⟨y1, y2⟩ := y
          intro hle a ha g hg
          simp only at ha hg hle
          subst ha
          have hi := ih y2 g (by simp at hl; omega) hg
          refine Goes.andThen hi ?_ ?_
          · simp only
            generalize pAlts pa n y2 = z
            obtain ⟨z1, z2⟩ := z
            intro b hb k hk
            simp only at hb hk
            subst hb
            exact Goes.here hk
          · simp only
            generalize pAlts pa n y2 = z
            obtain ⟨z1, z2⟩ := z
            intro hb
            simp only at hb
            subst hb
            exact ⟨rfl, rfl⟩
        · generalize pSeq pa r = y
          obtain ⟨y1, y2⟩ := y
          intro hb
          simp only at hb
          subst hb
          exact ⟨rfl, rfl⟩
      · simp only [if_neg hc]
        refine Goes.here ⟨h, ?_⟩
        intro c' p' r' e
        cases e
        exact hc
theorem pAlt_goes (H : AtomGoes pa d) (l : List Tok) (f : Fm) (h : PreA f l) (ho : f.op = d) : Goes (pAlt pa l) l f (fun g x => AfterAlt d g x) := by
  have H1 := pSeq_goes H l f h ho
  refine Goes.andThen H1 ?_ ?_
  · unfold pAlt
    generalize pSeq pa l = y
    obtain ⟨y1, y2⟩ := y
    intro a ha g hg
    simp only at ha hg
    subst ha
    have hi := pAlts_goes H y2.length y2 g (Nat.le_refl _) hg
    refine Goes.andThen hi ?_ ?_
    · simp only
      generalize pAlts pa y2.length y2 = z
      obtain ⟨z1, z2⟩ := z
      intro b hb k hk
      simp only at hb hk
      subst hb
      exact Goes.here hk
    · simp only
      generalize pAlts pa y2.length y2 = z
      obtain ⟨z1, z2⟩ := z
      intro hb
      simp only at hb
      subst hb
      exact ⟨rfl, rfl⟩
  · unfold pAlt
    generalize pSeq pa l = y
    obtain ⟨y1, y2⟩ := y
    intro hb
    simp only at hb
    subst hb
    exact ⟨rfl, rfl⟩
end
theorem pStep_lt (l : List Tok) (f : Fm) (h : PreA f l) (h40 : ∀ p r, l = ((40 : Int), p) :: r → ¬ f.op < 8) : ∀ a, (pStep l).1 = some a → (pStep l).2.length < l.length := by
  match l with
  | [] => intro a e; cases e
  | (c, p) :: r =>
    intro a
    have hg := pStep_goes ((c, p) :: r) f h h40
    obtain ⟨u, g, h1, h2, h3, h4⟩ := hg
    intro ha
    match u, h1, h2 with
    | [], h1, h2 =>
      -- nothing was read: then the table stands where it stood, and the head is no kind
      exfalso
      simp only [List.nil_append] at h1
      simp only [pStep] at ha h1
      by_cases hk : isKindB c = true
      · simp only [if_pos hk] at ha h1
        have hb : ∀ x : List Tok, (pBox x).2.length ≤ x.length := by
          intro x
          match x with
          | [] => simp [pBox]
          | (d, q) :: y =>
            simp only [pBox]
            by_cases h91 : d = 91
            · simp only [if_pos h91]
              have := (pTests_goes (y.length + 1) y ⟨8, 0, 0, 0, 0⟩ (by omega) rfl rfl).le
              simp; omega
            · simp only [if_neg h91]; exact Nat.le_refl _
        have hn : (pName r).2.length ≤ r.length := by
          match r with
          | [] => simp [pName]
          | (d, q) :: y =>
            simp only [pName]
            by_cases hm : isNameB d = true
            · simp [hm]
            · simp [hm]
        have hb' := hb (pName r).2
        have hlen := congrArg List.length h1
        revert hlen hb'
        generalize pBox (pName r).2 = z
        obtain ⟨z1, z2⟩ := z
        cases z1 <;> (intro hlen hb'; simp at hlen hb'; omega)
      · simp only [if_neg hk] at ha
        cases ha
    | t :: u, h1, h2 =>
      have hl := congrArg List.length h1
      simp only [List.cons_append, List.length_cons, List.length_append] at hl ⊢
      omega
theorem pAtom_goes : ∀ (n : Nat), n ≤ 8 → AtomGoes (pAtom n) (8 - (n : Int)) := by
  intro n
  induction n with
  | zero =>
    intro _ l f h ho
    have h8 : ∀ p r, l = ((40 : Int), p) :: r → ¬ f.op < 8 := by intro p r _; rw [ho]; decide
    refine ⟨?_, pStep_lt l f h h8⟩
    have := pStep_goes l f h h8
    rw [ho] at this
    exact this
  | succ n ih =>
    intro hn l f h ho
    have ih := ih (by omega)
    match l, h with
    | [], h => exact ⟨Goes.stop h, by intro a e; cases e⟩
    | (c, p) :: r, h =>
      simp only [pAtom]
      by_cases hc : c = 40
      · simp only [if_pos hc]
        subst hc
        have hop : f.op < 8 := by rw [ho]; omega
        have e : nextF f 40 = some { f with op := f.op + 1, st := 0 } := by
          rw [show nextF f 40 = freshF f 40 from h]
          simp [freshF, hop, isKindB]
        have H1 := pAlt_goes ih r { f with op := f.op + 1, st := 0 } (preA_0 rfl _) (by simp [ho]; omega)
        have hle := H1.le
        have G : Goes (match pAlt (pAtom n) r with
            | (none, x) => ((none, x) : Option (Atom (n + 1)) × List Tok)
            | (some _, []) => (none, [])
            | (some t, (d, q) :: y) => if d = 41 then (some (.inr t), y) else (none, (d, q) :: y)) r { f with op := f.op + 1, st := 0 } (fun g x => AfterAtom (8 - ((n + 1 : Nat) : Int)) g x) := by
          refine Goes.andThen H1 ?_ ?_
          · generalize pAlt (pAtom n) r = y
            obtain ⟨y1, y2⟩ := y
            intro a ha g hg
            simp only at ha hg
            subst ha
            obtain ⟨⟨hr, hnk⟩, hnb⟩ := hg
            match y2, hr, hnk, hnb with
            | [], hr, _, _ =>
              refine Goes.stop ?_
              show overF g = false
              rw [hr.2, hr.1]
              simp; omega
            | (b, q) :: y, hr, hnk, hnb =>
              obtain ⟨k1, k2⟩ := hnk b q y rfl
              have k3 := hnb b q y rfl
              have hop2 : 0 < g.op := by rw [hr.1]; omega
              have hop3 : ¬ g.op = 0 := by omega
              have e2 : nextF g b = if b = 41 then some { g with op := g.op - 1, st := 3 } else none := by
                rw [hr.2]
                simp [behindF, freshF, k1, k2, k3, hop2, hop3]
              simp only
              by_cases h41 : b = 41
              · simp only [if_pos h41] at e2 ⊢
                refine Goes.cons e2 (Goes.here (afterAtom_3 (g := { g with op := g.op - 1, st := 3 }) rfl ?_ _))
                have := hr.1
                simp only
                omega
              · simp only [if_neg h41] at e2 ⊢
                exact Goes.stop e2
          · generalize pAlt (pAtom n) r = y
            obtain ⟨y1, y2⟩ := y
            intro hb
            simp only at hb
            subst hb
            exact ⟨rfl, rfl⟩
        refine ⟨Goes.cons e G, ?_⟩
        intro a _
        exact Nat.lt_of_le_of_lt G.le (by simp)
      · simp only [if_neg hc]
        have h8 : ∀ p' r', (c, p) :: r = ((40 : Int), p') :: r' → ¬ f.op < 8 := by intro p' r' e; cases e; exact absurd rfl hc
        have G := pStep_goes ((c, p) :: r) f h h8
        have L := pStep_lt ((c, p) :: r) f h h8
        refine ⟨Goes.andThen G ?_ ?_, ?_⟩
        · generalize pStep ((c, p) :: r) = y
          obtain ⟨y1, y2⟩ := y
          intro a ha g hg
          simp only at ha hg
          subst ha
          exact Goes.here (by rw [← ho]; exact hg)
        · generalize pStep ((c, p) :: r) = y
          obtain ⟨y1, y2⟩ := y
          intro hb
          simp only at hb
          subst hb
          exact ⟨rfl, rfl⟩
        · revert L
          generalize pStep ((c, p) :: r) = y
          obtain ⟨y1, y2⟩ := y
          intro L a
          cases y1 with
          | none => intro e; cases e
          | some s => intro _; exact L s rfl
theorem pNum_win : ∀ (l : List Tok) (acc : Int) (k : Nat) (f : Fm), k ≤ 18 → f.dg = k → (k = 0 → f.st = 12) → (¬ k = 0 → f.st = 13) → Goes (pNum acc k l) l f (fun g x => overF g = true ∧ ∀ c p r, x = (c, p) :: r → nextF g c = none) := by
  intro l
  induction l with
  | nil =>
    intro acc k f h1 hd hs0 hs1
    simp only [pNum]
    by_cases hk : k = 0
    · simp only [if_pos hk]
      exact Goes.stop (by simp [bad, overF, hs0 hk])
    · simp only [if_neg hk]
      exact Goes.here ⟨by simp [overF, hs1 hk], by intro c p r e; cases e⟩
  | cons t l ih =>
    obtain ⟨c, p⟩ := t
    intro acc k f h1 hd hs0 hs1
    have hn : nextF f c = if isDigitB c = true ∧ f.dg + 1 ≤ 18 then some { f with st := 13, dg := f.dg + 1 } else none := by
      by_cases hk : k = 0
      · simp [nextF, hs0 hk]
      · simp [nextF, hs1 hk]
    simp only [pNum]
    by_cases hc : isDigitB c = true
    · simp only [if_pos hc]
      by_cases h18 : k = 18
      · simp only [if_pos h18]
        exact Goes.stop (by show nextF f c = none; rw [hn]; simp [hd, h18])
      · simp only [if_neg h18]
        have h' : f.dg + 1 ≤ 18 := by omega
        refine Goes.cons (g := { f with st := 13, dg := f.dg + 1 }) (by rw [hn]; simp [hc, h']) ?_
        exact ih _ _ _ (by omega) (by simp [hd]) (by intro e; omega) (by intro _; rfl)
    · simp only [if_neg hc]
      have hn' : nextF f c = none := by rw [hn]; simp [hc]
      by_cases hk : k = 0
      · simp only [if_pos hk]
        exact Goes.stop hn'
      · simp only [if_neg hk]
        exact Goes.here ⟨by simp [overF, hs1 hk], by intro c' p' r' e; cases e; exact hn'⟩
theorem pTopOf_goes {α : Type} {pa : List Tok → Option α × List Tok} (H : AtomGoes pa 0) (l : List Tok) (f : Fm) (h : f.st = 0) (ho : f.op = 0) :
    Goes (pTopOf pa l) l f (fun g x => overF g = true ∧ x = []) := by
  have H1 := pAlt_goes H l f (preA_0 h _) ho
  refine Goes.andThen H1 ?_ ?_
  · unfold pTopOf
    generalize pAlt pa l = y
    obtain ⟨y1, y2⟩ := y
    intro a ha g hg
    simp only at ha hg
    subst ha
    obtain ⟨⟨hr, hnk⟩, hnb⟩ := hg
    match y2, hr, hnk, hnb with
    | [], hr, _, _ => exact Goes.here ⟨by rw [hr.2, hr.1]; rfl, rfl⟩
    | (b, q) :: y, hr, hnk, hnb =>
      obtain ⟨k1, k2⟩ := hnk b q y rfl
      have k3 := hnb b q y rfl
      have hop : g.op = 0 := hr.1
      have e2 : nextF g b = if b = 64 then some { g with st := 12, dg := 0 } else none := by
        rw [hr.2]
        simp [behindF, freshF, k1, k2, k3, hop]
      simp only
      by_cases h64 : b = 64
      · simp only [if_pos h64] at e2 ⊢
        refine Goes.cons e2 ?_
        refine Goes.andThen (pNum_win y 0 0 { g with st := 12, dg := 0 } (by omega) rfl (by intro _; rfl) (by intro h; exact absurd rfl h)) ?_ ?_
        · generalize pNum 0 0 y = z
          obtain ⟨z1, z2⟩ := z
          intro b hb k hk
          simp only at hb hk
          subst hb
          match z2, hk with
          | [], hk => exact Goes.here ⟨hk.1, rfl⟩
          | (c, p) :: r, hk => exact Goes.stop (hk.2 c p r rfl)
        · generalize pNum 0 0 y = z
          obtain ⟨z1, z2⟩ := z
          intro hb
          simp only at hb
          subst hb
          exact ⟨rfl, rfl⟩
      · simp only [if_neg h64] at e2 ⊢
        exact Goes.stop e2
  · unfold pTopOf
    generalize pAlt pa l = y
    obtain ⟨y1, y2⟩ := y
    intro hb
    simp only at hb
    subst hb
    exact ⟨rfl, rfl⟩
/-- The place of what is left. -/
def posOf (n : Nat) : List Tok → Nat
  | [] => n
  | (_, p) :: _ => p
def plc (n : Nat) : Fm → List Tok → Int
  | f, [] => if overF f = true then -1 else (n : Int)
  | f, (c, p) :: r =>
    match nextF f c with
    | none => (p : Int)
    | some g => plc n g r
theorem placeT_toks (n : Nat) : ∀ (b : List Int) (i : Nat) (f : Fm), placeT n f i b = plc n f (toks i b) := by
  intro b
  induction b with
  | nil => intro i f; rfl
  | cons c r ih =>
    intro i f
    simp only [placeT, toks]
    by_cases h : c = 32
    · simp only [if_pos h]; exact ih _ _
    · simp only [if_neg h, plc]
      cases nextF f c with
      | none => rfl
      | some g => exact ih _ _
theorem plc_append (n : Nat) {u x : List Tok} : ∀ {f g : Fm}, runF f u = some g → plc n f (u ++ x) = plc n g x := by
  induction u with
  | nil => intro f g h; simp [runF] at h; subst h; rfl
  | cons t u ih =>
    obtain ⟨c, p⟩ := t
    intro f g h
    simp only [runF, List.cons_append, plc] at h ⊢
    cases e : nextF f c with
    | none => simp [e] at h
    | some k => simp only [e] at h ⊢; exact ih h
theorem plc_bad (n : Nat) {f : Fm} {x : List Tok} (h : bad f x) : plc n f x = posOf n x := by
  match x, h with
  | [], h => simp [plc, posOf, show overF f = false from h]
  | (c, p) :: r, h => simp [plc, posOf, show nextF f c = none from h]
/-- Where a text fails: the table of states and the reading from left to right say the same. -/
theorem place_top (b : List Int) :
    (∀ t, (pTopOf (pAtom 8) (toks 0 b)).1 = some t → placeT b.length ⟨0, 0, 0, 0, 0⟩ 0 b = -1 ∧ (pTopOf (pAtom 8) (toks 0 b)).2 = []) ∧
    ((pTopOf (pAtom 8) (toks 0 b)).1 = none → placeT b.length ⟨0, 0, 0, 0, 0⟩ 0 b = posOf b.length (pTopOf (pAtom 8) (toks 0 b)).2) := by
  have H : AtomGoes (pAtom 8) 0 := pAtom_goes 8 (Nat.le_refl _)
  obtain ⟨u, g, h1, h2, h3, h4⟩ := pTopOf_goes H (toks 0 b) ⟨0, 0, 0, 0, 0⟩ rfl rfl
  rw [placeT_toks]
  revert h1 h3 h4
  generalize pTopOf (pAtom 8) (toks 0 b) = z
  intro h1 h3 h4
  constructor
  · intro t ht
    obtain ⟨ho, hx⟩ := h3 t ht
    refine ⟨?_, hx⟩
    rw [h1, plc_append _ h2, hx]
    simp [plc, ho]
  · intro ht
    rw [h1, plc_append _ h2]
    exact plc_bad _ (h4 ht)
end Go.Proofs.YtcboiapggnmpfaaGreat

namespace Go.Proofs.YtcboiapggnmpfaaGreat

structure Eg where
  fr : Nat
  to : Nat
  st : Int
/-- The set S is closed under the edges that may be gone: those without a step, and those of the steps that ok lets by. -/
def Shuts (ok : Nat → Bool) (E : List Eg) (S : Nat → Prop) : Prop :=
  ∀ e ∈ E, (e.st < 0 ∨ ok e.st.toNat = true) → S e.fr → S e.to
theorem Shuts.append {ok : Nat → Bool} {E F : List Eg} {S : Nat → Prop} : Shuts ok (E ++ F) S ↔ Shuts ok E S ∧ Shuts ok F S := by
  unfold Shuts
  constructor
  · intro h
    exact ⟨fun e he => h e (List.mem_append_left _ he), fun e he => h e (List.mem_append_right _ he)⟩
  · intro h e he
    rcases List.mem_append.1 he with he | he
    · exact h.1 e he
    · exact h.2 e he
/-- A part's edges between two points (from, to, the next new point, the next step's number), with the next new point behind it. -/
abbrev Pl := Nat → Nat → Nat → Nat → List Eg × Nat
/-- What is asked of a part: of its number of steps, its edges, whether it can be passed, and which of its steps can be reached. -/
structure POk (cnt : Nat) (pl : Pl) (ps : (Nat → Bool) → Nat → Bool) (rc : (Nat → Bool) → Nat → Nat → Bool) : Prop where
  grow : ∀ fr to pt st, pt ≤ (pl fr to pt st).2
  points : ∀ fr to pt st, fr < pt → to < pt → ∀ e ∈ (pl fr to pt st).1, e.fr < (pl fr to pt st).2 ∧ e.to < (pl fr to pt st).2
  steps : ∀ fr to pt st, ∀ e ∈ (pl fr to pt st).1, e.st = -1 ∨ ((st : Int) ≤ e.st ∧ e.st < (st : Int) + cnt)
  has : ∀ fr to pt st k, st ≤ k → k < st + cnt → ∃ e ∈ (pl fr to pt st).1, e.st = (k : Int)
  one : ∀ fr to pt st, ∀ e ∈ (pl fr to pt st).1, ∀ f ∈ (pl fr to pt st).1, 0 ≤ e.st → e.st = f.st → e = f
  up : ∀ ok fr to pt st S, Shuts ok (pl fr to pt st).1 S → S fr → (ps ok st = true → S to) ∧ ∀ e ∈ (pl fr to pt st).1, 0 ≤ e.st → rc ok st e.st.toNat = true → S e.fr
  down : ∀ ok fr to pt st (S0 : Nat → Prop), fr < pt → to < pt → (S0 fr → ps ok st = true → S0 to) →
    ∃ S1 : Nat → Prop, (∀ x, x < pt → (S1 x ↔ S0 x)) ∧ Shuts ok (pl fr to pt st).1 S1 ∧ ∀ e ∈ (pl fr to pt st).1, 0 ≤ e.st → (S1 e.fr ↔ (S0 fr ∧ rc ok st e.st.toNat = true))
def freeE (lo hi : Int) (fr to pt : Nat) : List Eg :=
  [⟨fr, pt, -1⟩, ⟨pt + 1, to, -1⟩] ++ (if hi = 1 then [] else [⟨pt + 1, pt, -1⟩]) ++ (if lo = 0 then [⟨pt, pt + 1, -1⟩] else [])
def plRound (lo hi : Int) (pl : Pl) : Pl := fun fr to pt st =>
  (freeE lo hi fr to pt ++ (pl pt (pt + 1) (pt + 2) st).1, (pl pt (pt + 1) (pt + 2) st).2)
def psRound (lo : Int) (ps : (Nat → Bool) → Nat → Bool) : (Nat → Bool) → Nat → Bool := fun ok st => decide (lo = 0) || ps ok st
theorem mem_freeE {lo hi : Int} {fr to pt : Nat} {e : Eg} (h : e ∈ freeE lo hi fr to pt) :
    e = ⟨fr, pt, -1⟩ ∨ e = ⟨pt + 1, to, -1⟩ ∨ e = ⟨pt + 1, pt, -1⟩ ∨ (lo = 0 ∧ e = ⟨pt, pt + 1, -1⟩) := by
  unfold freeE at h
  rcases List.mem_append.1 h with h | h
  · rcases List.mem_append.1 h with h | h
    · simp only [List.mem_cons, List.not_mem_nil, or_false] at h
      rcases h with h | h
      · exact Or.inl h
      · exact Or.inr (Or.inl h)
    · by_cases hh : hi = 1
      · simp [hh] at h
      · simp only [if_neg hh, List.mem_cons, List.not_mem_nil, or_false] at h
        exact Or.inr (Or.inr (Or.inl h))
  · by_cases hh : lo = 0
    · simp only [if_pos hh, List.mem_cons, List.not_mem_nil, or_false] at h
      exact Or.inr (Or.inr (Or.inr ⟨hh, h⟩))
    · simp [hh] at h
theorem freeE_st {lo hi : Int} {fr to pt : Nat} {e : Eg} (h : e ∈ freeE lo hi fr to pt) : e.st = -1 := by
  rcases mem_freeE h with h | h | h | ⟨_, h⟩ <;> rw [h]
section
variable {cnt : Nat} {pl : Pl} {ps : (Nat → Bool) → Nat → Bool} {rc : (Nat → Bool) → Nat → Nat → Bool}
theorem POk.round (H : POk cnt pl ps rc) (lo hi : Int) : POk cnt (plRound lo hi pl) (psRound lo ps) rc where
  grow := by
    intro fr to pt st
    exact Nat.le_trans (by omega) (H.grow pt (pt + 1) (pt + 2) st)
  points := by
    intro fr to pt st h1 h2 e he
    have hg := H.grow pt (pt + 1) (pt + 2) st
    simp only [plRound] at he ⊢
    rcases List.mem_append.1 he with he | he
    · rcases mem_freeE he with h | h | h | ⟨_, h⟩ <;> subst h <;> simp only <;> omega
    · exact H.points pt (pt + 1) (pt + 2) st (by omega) (by omega) e he
  steps := by
    intro fr to pt st e he
    simp only [plRound] at he
    rcases List.mem_append.1 he with he | he
    · exact Or.inl (freeE_st he)
    · exact H.steps pt (pt + 1) (pt + 2) st e he
  has := by
    intro fr to pt st k h1 h2
    obtain ⟨e, he, hk⟩ := H.has pt (pt + 1) (pt + 2) st k h1 h2
    exact ⟨e, List.mem_append_right _ he, hk⟩
  one := by
    intro fr to pt st e he f hf h0 hef
    simp only [plRound] at he hf
    rcases List.mem_append.1 he with he | he
    · have := freeE_st he; omega
    · rcases List.mem_append.1 hf with hf | hf
      · have := freeE_st hf; omega
      · exact H.one pt (pt + 1) (pt + 2) st e he f hf h0 hef
  up := by
    intro ok fr to pt st S hS hfr
    simp only [plRound] at hS ⊢
    obtain ⟨hF, hE⟩ := Shuts.append.1 hS
    have ha : S pt := hF ⟨fr, pt, -1⟩ (by simp [freeE]) (Or.inl (by simp)) hfr
    obtain ⟨u1, u2⟩ := H.up ok pt (pt + 1) (pt + 2) st S hE ha
    refine ⟨?_, ?_⟩
    · intro hp
      have hb : S (pt + 1) := by
        simp only [psRound, Bool.or_eq_true, decide_eq_true_eq] at hp
        rcases hp with hp | hp
        · exact hF ⟨pt, pt + 1, -1⟩ (by simp [freeE, hp]) (Or.inl (by simp)) ha
        · exact u1 hp
      exact hF ⟨pt + 1, to, -1⟩ (by simp [freeE]) (Or.inl (by simp)) hb
    · intro e he h0 hr
      rcases List.mem_append.1 he with he | he
      · have := freeE_st he; omega
      · exact u2 e he h0 hr
  down := by
    intro ok fr to pt st S0 h1 h2 h3
    have hps : psRound lo ps ok st = (decide (lo = 0) || ps ok st) := rfl
    let T : Nat → Prop := fun x => if x < pt then S0 x else if x = pt then S0 fr else (S0 fr ∧ (decide (lo = 0) || ps ok st) = true)
    have Ta : T pt ↔ S0 fr := by simp [T]
    have Tb : T (pt + 1) ↔ (S0 fr ∧ (decide (lo = 0) || ps ok st) = true) := by
      have e1 : ¬ pt + 1 < pt := by omega
      have e2 : ¬ pt + 1 = pt := by omega
      simp only [T, if_neg e1, if_neg e2]
    have To : ∀ x, x < pt → (T x ↔ S0 x) := by intro x hx; simp [T, hx]
    obtain ⟨S1, k1, k2, k3⟩ := H.down ok pt (pt + 1) (pt + 2) st T (by omega) (by omega) (by
      intro ha hp
      rw [Tb]; rw [Ta] at ha
      exact ⟨ha, by rw [hp]; simp⟩)
    refine ⟨S1, ?_, ?_, ?_⟩
    · intro x hx
      rw [k1 x (by omega), To x hx]
    · simp only [plRound]
      refine Shuts.append.2 ⟨?_, k2⟩
      intro e he _ hs
      have ka : S1 pt ↔ S0 fr := by rw [k1 pt (by omega), Ta]
      have kb : S1 (pt + 1) ↔ (S0 fr ∧ (decide (lo = 0) || ps ok st) = true) := by rw [k1 (pt + 1) (by omega), Tb]
      have kf : S1 fr ↔ S0 fr := by rw [k1 fr (by omega), To fr h1]
      have kt : S1 to ↔ S0 to := by rw [k1 to (by omega), To to h2]
      rcases mem_freeE he with h | h | h | ⟨hl, h⟩
      · subst h; simp only at hs ⊢; rw [ka]; rw [kf] at hs; exact hs
      · subst h; simp only at hs ⊢; rw [kb] at hs; rw [kt]; exact h3 hs.1 (by rw [hps]; exact hs.2)
      · subst h; simp only at hs ⊢; rw [kb] at hs; rw [ka]; exact hs.1
      · subst h; simp only at hs ⊢; rw [ka] at hs; rw [kb]; exact ⟨hs, by simp [hl]⟩
    · intro e he h0
      simp only [plRound] at he
      rcases List.mem_append.1 he with he | he
      · have := freeE_st he; omega
      · rw [k3 e he h0, Ta]
end

def plThen (n1 : Nat) (p1 p2 : Pl) : Pl := fun fr to pt st =>
  ((p1 fr pt (pt + 1) st).1 ++ (p2 pt to (p1 fr pt (pt + 1) st).2 (st + n1)).1, (p2 pt to (p1 fr pt (pt + 1) st).2 (st + n1)).2)
def psThen (n1 : Nat) (s1 s2 : (Nat → Bool) → Nat → Bool) : (Nat → Bool) → Nat → Bool := fun ok st => s1 ok st && s2 ok (st + n1)
def rcThen (n1 : Nat) (s1 : (Nat → Bool) → Nat → Bool) (r1 r2 : (Nat → Bool) → Nat → Nat → Bool) : (Nat → Bool) → Nat → Nat → Bool := fun ok st k =>
  if k < st + n1 then r1 ok st k else s1 ok st && r2 ok (st + n1) k
def plOr (n1 : Nat) (p1 p2 : Pl) : Pl := fun fr to pt st =>
  ((p1 fr to pt st).1 ++ (p2 fr to (p1 fr to pt st).2 (st + n1)).1, (p2 fr to (p1 fr to pt st).2 (st + n1)).2)
def psOr (n1 : Nat) (s1 s2 : (Nat → Bool) → Nat → Bool) : (Nat → Bool) → Nat → Bool := fun ok st => s1 ok st || s2 ok (st + n1)
def rcOr (n1 : Nat) (r1 r2 : (Nat → Bool) → Nat → Nat → Bool) : (Nat → Bool) → Nat → Nat → Bool := fun ok st k =>
  if k < st + n1 then r1 ok st k else r2 ok (st + n1) k
section
variable {n1 n2 : Nat} {p1 p2 : Pl} {s1 s2 : (Nat → Bool) → Nat → Bool} {r1 r2 : (Nat → Bool) → Nat → Nat → Bool}
theorem POk.lo (H : POk n1 p1 s1 r1) {fr to pt st : Nat} {e : Eg} (he : e ∈ (p1 fr to pt st).1) (h0 : 0 ≤ e.st) : st ≤ e.st.toNat ∧ e.st.toNat < st + n1 := by
  rcases H.steps fr to pt st e he with h | h <;> omega
theorem POk.then (H1 : POk n1 p1 s1 r1) (H2 : POk n2 p2 s2 r2) : POk (n1 + n2) (plThen n1 p1 p2) (psThen n1 s1 s2) (rcThen n1 s1 r1 r2) where
  grow := by
    intro fr to pt st
    have h1 := H1.grow fr pt (pt + 1) st
    have h2 := H2.grow pt to (p1 fr pt (pt + 1) st).2 (st + n1)
    simp only [plThen]; omega
  points := by
    intro fr to pt st hf ht e he
    have h1 := H1.grow fr pt (pt + 1) st
    have h2 := H2.grow pt to (p1 fr pt (pt + 1) st).2 (st + n1)
    simp only [plThen] at he ⊢
    rcases List.mem_append.1 he with he | he
    · have := H1.points fr pt (pt + 1) st (by omega) (by omega) e he
      omega
    · exact H2.points pt to _ (st + n1) (by omega) (by omega) e he
  steps := by
    intro fr to pt st e he
    simp only [plThen] at he
    rcases List.mem_append.1 he with he | he
    · rcases H1.steps _ _ _ _ e he with h | h
      · exact Or.inl h
      · exact Or.inr (by omega)
    · rcases H2.steps _ _ _ _ e he with h | h
      · exact Or.inl h
      · exact Or.inr (by omega)
  has := by
    intro fr to pt st k h1 h2
    by_cases hk : k < st + n1
    · obtain ⟨e, he, h⟩ := H1.has fr pt (pt + 1) st k h1 hk
      exact ⟨e, List.mem_append_left _ he, h⟩
    · obtain ⟨e, he, h⟩ := H2.has pt to (p1 fr pt (pt + 1) st).2 (st + n1) k (by omega) (by omega)
      exact ⟨e, List.mem_append_right _ he, h⟩
  one := by
    intro fr to pt st e he f hf h0 hef
    simp only [plThen] at he hf
    rcases List.mem_append.1 he with he | he <;> rcases List.mem_append.1 hf with hf | hf
    · exact H1.one _ _ _ _ e he f hf h0 hef
    · have a := H1.lo he h0
      have b := H2.lo hf (by omega)
      omega
    · have a := H2.lo he h0
      have b := H1.lo hf (by omega)
      omega
    · exact H2.one _ _ _ _ e he f hf h0 hef
  up := by
    intro ok fr to pt st S hS hfr
    simp only [plThen] at hS ⊢
    obtain ⟨hA, hB⟩ := Shuts.append.1 hS
    obtain ⟨a1, a2⟩ := H1.up ok fr pt (pt + 1) st S hA hfr
    refine ⟨?_, ?_⟩
    · intro hp
      simp only [psThen, Bool.and_eq_true] at hp
      exact (H2.up ok pt to _ (st + n1) S hB (a1 hp.1)).1 hp.2
    · intro e he h0 hr
      rcases List.mem_append.1 he with he | he
      · have := H1.lo he h0
        simp only [rcThen, if_pos this.2] at hr
        exact a2 e he h0 hr
      · have := H2.lo he h0
        simp only [rcThen, if_neg (show ¬ e.st.toNat < st + n1 by omega), Bool.and_eq_true] at hr
        exact (H2.up ok pt to _ (st + n1) S hB (a1 hr.1)).2 e he h0 hr.2
  down := by
    intro ok fr to pt st S0 hf ht h3
    have g1 := H1.grow fr pt (pt + 1) st
    let T : Nat → Prop := fun x => if x < pt then S0 x else (S0 fr ∧ s1 ok st = true)
    have To : ∀ x, x < pt → (T x ↔ S0 x) := by intro x hx; simp [T, hx]
    have Tm : T pt ↔ (S0 fr ∧ s1 ok st = true) := by simp [T]
    obtain ⟨A, k1, k2, k3⟩ := H1.down ok fr pt (pt + 1) st T (by omega) (by omega) (by
      intro ha hp; rw [Tm]; exact ⟨(To fr hf).1 ha, hp⟩)
    have Am : A pt ↔ (S0 fr ∧ s1 ok st = true) := by rw [k1 pt (by omega), Tm]
    have Ao : ∀ x, x < pt → (A x ↔ S0 x) := by intro x hx; rw [k1 x (by omega), To x hx]
    obtain ⟨B, m1, m2, m3⟩ := H2.down ok pt to (p1 fr pt (pt + 1) st).2 (st + n1) A (by omega) (by omega) (by
      intro ha hp
      rw [Am] at ha
      rw [Ao to ht]
      exact h3 ha.1 (by simp only [psThen, ha.2, hp]; rfl))
    have keep : ∀ x, x < (p1 fr pt (pt + 1) st).2 → (B x ↔ A x) := m1
    refine ⟨B, ?_, ?_, ?_⟩
    · intro x hx
      rw [keep x (by omega), Ao x hx]
    · simp only [plThen]
      refine Shuts.append.2 ⟨?_, m2⟩
      intro e he hok hs
      obtain ⟨q1, q2⟩ := H1.points fr pt (pt + 1) st (by omega) (by omega) e he
      rw [keep _ q2]
      rw [keep _ q1] at hs
      exact k2 e he hok hs
    · intro e he h0
      simp only [plThen] at he
      rcases List.mem_append.1 he with he | he
      · obtain ⟨q1, q2⟩ := H1.points fr pt (pt + 1) st (by omega) (by omega) e he
        have := H1.lo he h0
        rw [keep _ q1, k3 e he h0, To fr hf]
        simp only [rcThen, if_pos this.2]
      · have := H2.lo he h0
        rw [m3 e he h0, Am]
        simp only [rcThen, if_neg (show ¬ e.st.toNat < st + n1 by omega), Bool.and_eq_true, and_assoc]
theorem POk.or (H1 : POk n1 p1 s1 r1) (H2 : POk n2 p2 s2 r2) : POk (n1 + n2) (plOr n1 p1 p2) (psOr n1 s1 s2) (rcOr n1 r1 r2) where
  grow := by
    intro fr to pt st
    have h1 := H1.grow fr to pt st
    have h2 := H2.grow fr to (p1 fr to pt st).2 (st + n1)
    simp only [plOr]; omega
  points := by
    intro fr to pt st hf ht e he
    have h1 := H1.grow fr to pt st
    have h2 := H2.grow fr to (p1 fr to pt st).2 (st + n1)
    simp only [plOr] at he ⊢
    rcases List.mem_append.1 he with he | he
    · have := H1.points fr to pt st (by omega) (by omega) e he
      omega
    · exact H2.points fr to _ (st + n1) (by omega) (by omega) e he
  steps := by
    intro fr to pt st e he
    simp only [plOr] at he
    rcases List.mem_append.1 he with he | he
    · rcases H1.steps _ _ _ _ e he with h | h
      · exact Or.inl h
      · exact Or.inr (by omega)
    · rcases H2.steps _ _ _ _ e he with h | h
      · exact Or.inl h
      · exact Or.inr (by omega)
  has := by
    intro fr to pt st k h1 h2
    by_cases hk : k < st + n1
    · obtain ⟨e, he, h⟩ := H1.has fr to pt st k h1 hk
      exact ⟨e, List.mem_append_left _ he, h⟩
    · obtain ⟨e, he, h⟩ := H2.has fr to (p1 fr to pt st).2 (st + n1) k (by omega) (by omega)
      exact ⟨e, List.mem_append_right _ he, h⟩
  one := by
    intro fr to pt st e he f hf h0 hef
    simp only [plOr] at he hf
    rcases List.mem_append.1 he with he | he <;> rcases List.mem_append.1 hf with hf | hf
    · exact H1.one _ _ _ _ e he f hf h0 hef
    · have a := H1.lo he h0
      have b := H2.lo hf (by omega)
      omega
    · have a := H2.lo he h0
      have b := H1.lo hf (by omega)
      omega
    · exact H2.one _ _ _ _ e he f hf h0 hef
  up := by
    intro ok fr to pt st S hS hfr
    simp only [plOr] at hS ⊢
    obtain ⟨hA, hB⟩ := Shuts.append.1 hS
    obtain ⟨a1, a2⟩ := H1.up ok fr to pt st S hA hfr
    obtain ⟨b1, b2⟩ := H2.up ok fr to _ (st + n1) S hB hfr
    refine ⟨?_, ?_⟩
    · intro hp
      simp only [psOr, Bool.or_eq_true] at hp
      rcases hp with hp | hp
      · exact a1 hp
      · exact b1 hp
    · intro e he h0 hr
      rcases List.mem_append.1 he with he | he
      · have := H1.lo he h0
        simp only [rcOr, if_pos this.2] at hr
        exact a2 e he h0 hr
      · have := H2.lo he h0
        simp only [rcOr, if_neg (show ¬ e.st.toNat < st + n1 by omega)] at hr
        exact b2 e he h0 hr
  down := by
    intro ok fr to pt st S0 hf ht h3
    have g1 := H1.grow fr to pt st
    obtain ⟨A, k1, k2, k3⟩ := H1.down ok fr to pt st S0 hf ht (by
      intro ha hp; exact h3 ha (by simp only [psOr, hp]; rfl))
    obtain ⟨B, m1, m2, m3⟩ := H2.down ok fr to (p1 fr to pt st).2 (st + n1) A (by omega) (by omega) (by
      intro ha hp
      rw [k1 fr hf] at ha
      rw [k1 to ht]
      exact h3 ha (by simp only [psOr, hp, Bool.or_true]))
    refine ⟨B, ?_, ?_, ?_⟩
    · intro x hx
      rw [m1 x (by omega), k1 x hx]
    · simp only [plOr]
      refine Shuts.append.2 ⟨?_, m2⟩
      intro e he hok hs
      obtain ⟨q1, q2⟩ := H1.points fr to pt st hf ht e he
      rw [m1 _ q2]
      rw [m1 _ q1] at hs
      exact k2 e he hok hs
    · intro e he h0
      simp only [plOr] at he
      rcases List.mem_append.1 he with he | he
      · obtain ⟨q1, q2⟩ := H1.points fr to pt st hf ht e he
        have := H1.lo he h0
        rw [m1 _ q1, k3 e he h0]
        simp only [rcOr, if_pos this.2]
      · have := H2.lo he h0
        rw [m3 e he h0, k1 fr hf]
        simp only [rcOr, if_neg (show ¬ e.st.toNat < st + n1 by omega)]
end
/-- A step. -/
def plOne : Pl := fun fr to pt st => ([⟨fr, to, (st : Int)⟩], pt)
def psOne : (Nat → Bool) → Nat → Bool := fun ok st => ok st
def rcOne : (Nat → Bool) → Nat → Nat → Bool := fun _ _ _ => true
theorem POk.step : POk 1 plOne psOne rcOne where
  grow := by intro fr to pt st; exact Nat.le_refl _
  points := by
    intro fr to pt st hf ht e he
    simp only [plOne, List.mem_cons, List.not_mem_nil, or_false] at he ⊢
    subst he; exact ⟨hf, ht⟩
  steps := by
    intro fr to pt st e he
    simp only [plOne, List.mem_cons, List.not_mem_nil, or_false] at he
    subst he; exact Or.inr ⟨Int.le_refl _, by simp only; omega⟩
  has := by
    intro fr to pt st k h1 h2
    have : k = st := by omega
    subst this
    exact ⟨⟨fr, to, (k : Int)⟩, by simp [plOne], rfl⟩
  one := by
    intro fr to pt st e he f hf _ _
    simp only [plOne, List.mem_cons, List.not_mem_nil, or_false] at he hf
    rw [he, hf]
  up := by
    intro ok fr to pt st S hS hfr
    refine ⟨?_, ?_⟩
    · intro hp
      exact hS ⟨fr, to, (st : Int)⟩ (by simp [plOne]) (Or.inr (by simpa [psOne] using hp)) hfr
    · intro e he _ _
      simp only [plOne, List.mem_cons, List.not_mem_nil, or_false] at he
      subst he; exact hfr
  down := by
    intro ok fr to pt st S0 hf ht h3
    refine ⟨S0, fun _ _ => Iff.rfl, ?_, ?_⟩
    · intro e he hok hs
      simp only [plOne, List.mem_cons, List.not_mem_nil, or_false] at he
      subst he
      rcases hok with h | h
      · simp only at h; omega
      · exact h3 hs (by simpa [psOne] using h)
    · intro e he _
      simp only [plOne, List.mem_cons, List.not_mem_nil, or_false] at he
      subst he
      simp [rcOne]
end Go.Proofs.YtcboiapggnmpfaaGreat

namespace Go.Proofs.YtcboiapggnmpfaaGreat

/-- What a part is to the graph. -/
structure Part where
  cnt : Nat
  pl : Pl
  ps : (Nat → Bool) → Nat → Bool
  rc : (Nat → Bool) → Nat → Nat → Bool
def Part.Ok (P : Part) : Prop := POk P.cnt P.pl P.ps P.rc
def Part.round (lo hi : Int) (P : Part) : Part := ⟨P.cnt, plRound lo hi P.pl, psRound lo P.ps, P.rc⟩
def Part.andThen (P Q : Part) : Part := ⟨P.cnt + Q.cnt, plThen P.cnt P.pl Q.pl, psThen P.cnt P.ps Q.ps, rcThen P.cnt P.ps P.rc Q.rc⟩
def Part.orElse (P Q : Part) : Part := ⟨P.cnt + Q.cnt, plOr P.cnt P.pl Q.pl, psOr P.cnt P.ps Q.ps, rcOr P.cnt P.rc Q.rc⟩
def Part.one : Part := ⟨1, plOne, psOne, rcOne⟩
/-- What a part is to sets that are handed along: how many steps; which names it adds, on some way and on every way (nm: the steps' names; st: its first step's number);
whether a name is ahead of step k on some way, on every way, if it is (or not) ahead of the part; whether step k stands in a repetition. -/
structure Hand where
  cnt : Nat
  addM : (Nat → Int) → Int → Nat → Bool
  addS : (Nat → Int) → Int → Nat → Bool
  svM : (Nat → Int) → Int → Bool → Nat → Nat → Bool
  svS : (Nat → Int) → Int → Bool → Nat → Nat → Bool
  ir : Bool → Nat → Nat → Bool
def Hand.one : Hand := ⟨1, fun nm x st => decide (nm st = x), fun nm x st => decide (nm st = x), fun _ _ r _ _ => r, fun _ _ r _ _ => r, fun d _ _ => d⟩
def Hand.round (H : Hand) : Hand := ⟨H.cnt, fun _ _ _ => false, fun _ _ _ => false, H.svM, H.svS, fun _ st k => H.ir true st k⟩
def Hand.andThen (H K : Hand) : Hand where
  cnt := H.cnt + K.cnt
  addM := fun nm x st => H.addM nm x st || K.addM nm x (st + H.cnt)
  addS := fun nm x st => H.addS nm x st || K.addS nm x (st + H.cnt)
  svM := fun nm x r st k => if k < st + H.cnt then H.svM nm x r st k else K.svM nm x (r || H.addM nm x st) (st + H.cnt) k
  svS := fun nm x r st k => if k < st + H.cnt then H.svS nm x r st k else K.svS nm x (r || H.addS nm x st) (st + H.cnt) k
  ir := fun d st k => if k < st + H.cnt then H.ir d st k else K.ir d (st + H.cnt) k
def Hand.orElse (H K : Hand) : Hand where
  cnt := H.cnt + K.cnt
  addM := fun nm x st => H.addM nm x st || K.addM nm x (st + H.cnt)
  addS := fun nm x st => H.addS nm x st && K.addS nm x (st + H.cnt)
  svM := fun nm x r st k => if k < st + H.cnt then H.svM nm x r st k else K.svM nm x r (st + H.cnt) k
  svS := fun nm x r st k => if k < st + H.cnt then H.svS nm x r st k else K.svS nm x r (st + H.cnt) k
  ir := fun d st k => if k < st + H.cnt then H.ir d st k else K.ir d (st + H.cnt) k
/-- The two go together: where no step in a repetition (ahead of k) bears the name x. -/
structure Both (P : Part) (H : Hand) : Prop where
  cnt : P.cnt = H.cnt
  ok : P.Ok
  deep : ∀ st k, st ≤ k → k < st + H.cnt → H.ir true st k = true
  free : ∀ (nm : Nat → Int) (x : Int) st, (∀ i, st ≤ i → i < st + H.cnt → ¬ nm i = x) → P.ps (fun i => decide (¬ nm i = x)) st = true
  pass : ∀ (nm : Nat → Int) (x : Int) st, (∀ i, st ≤ i → i < st + H.cnt → H.ir false st i = true → ¬ nm i = x) → P.ps (fun i => decide (¬ nm i = x)) st = !(H.addS nm x st)
  svT : ∀ (nm : Nat → Int) (x : Int) st k, st ≤ k → k < st + H.cnt → H.svS nm x true st k = true
  rcT : ∀ (nm : Nat → Int) (x : Int) st k, st ≤ k → k < st + H.cnt → (∀ i, st ≤ i → i < k → ¬ nm i = x) → P.rc (fun i => decide (¬ nm i = x)) st k = true
  svF : ∀ (nm : Nat → Int) (x : Int) st k, st ≤ k → k < st + H.cnt → (∀ i, st ≤ i → i < k → ¬ nm i = x) → H.svS nm x false st k = false
  reach : ∀ (nm : Nat → Int) (x : Int) st k, st ≤ k → k < st + H.cnt → (∀ i, st ≤ i → i < k → H.ir false st i = true → ¬ nm i = x) → P.rc (fun i => decide (¬ nm i = x)) st k = !(H.svS nm x false st k)
theorem Both.one : Both Part.one Hand.one where
  cnt := rfl
  ok := POk.step
  deep := by intro st k _ _; rfl
  free := by
    intro nm x st h
    have := h st (Nat.le_refl _) (by simp [Hand.one])
    simp [Part.one, psOne, this]
  pass := by
    intro nm x st _
    simp only [Part.one, psOne, Hand.one]
    by_cases h : nm st = x <;> simp [h]
  svT := by intro nm x st k _ _; rfl
  rcT := by intro nm x st k _ _ _; rfl
  svF := by intro nm x st k _ _ _; rfl
  reach := by intro nm x st k _ _ _; rfl
section
variable {P Q : Part} {H K : Hand}
theorem Both.round (B : Both P H) (lo hi : Int) : Both (P.round lo hi) H.round where
  cnt := B.cnt
  ok := POk.round B.ok lo hi
  deep := by intro st k h1 h2; exact B.deep st k h1 h2
  free := by
    intro nm x st h
    simp only [Part.round, psRound, Bool.or_eq_true]
    exact Or.inr (B.free nm x st h)
  pass := by
    intro nm x st h
    have : ∀ i, st ≤ i → i < st + H.cnt → ¬ nm i = x := fun i h1 h2 => h i h1 h2 (B.deep st i h1 h2)
    simp only [Part.round, psRound, Hand.round, B.free nm x st this]
    simp
  svT := B.svT
  rcT := B.rcT
  svF := B.svF
  reach := by
    intro nm x st k h1 h2 h
    have h' : ∀ i, st ≤ i → i < k → ¬ nm i = x := fun i a b => h i a b (B.deep st i a (by have : H.round.cnt = H.cnt := rfl; omega))
    rw [show (P.round lo hi).rc = P.rc from rfl, B.rcT nm x st k h1 h2 h']
    show true = !(H.svS nm x false st k)
    rw [B.svF nm x st k h1 h2 h']
    rfl
theorem Both.andThen (B : Both P H) (C : Both Q K) : Both (P.andThen Q) (H.andThen K) where
  cnt := by simp only [Part.andThen, Hand.andThen, B.cnt, C.cnt]
  ok := POk.then B.ok C.ok
  deep := by
    intro st k h1 h2
    simp only [Hand.andThen] at h2 ⊢
    by_cases h : k < st + H.cnt
    · simp only [if_pos h]; exact B.deep st k h1 h
    · simp only [if_neg h]; exact C.deep (st + H.cnt) k (by omega) (by omega)
  free := by
    intro nm x st h
    simp only [Hand.andThen] at h
    simp only [Part.andThen, psThen, B.cnt, Bool.and_eq_true]
    exact ⟨B.free nm x st (fun i a b => h i a (by omega)), C.free nm x (st + H.cnt) (fun i a b => h i (by omega) (by omega))⟩
  pass := by
    intro nm x st h
    simp only [Hand.andThen] at h
    have h1 := B.pass nm x st (fun i a b c => h i a (by omega) (by simp only [if_pos b]; exact c))
    have h2 := C.pass nm x (st + H.cnt) (fun i a b c => h i (by omega) (by omega) (by simp only [if_neg (show ¬ i < st + H.cnt by omega)]; exact c))
    simp only [Part.andThen, psThen, B.cnt, Hand.andThen, h1, h2, Bool.not_or]
  svT := by
    intro nm x st k h1 h2
    simp only [Hand.andThen] at h2 ⊢
    by_cases h : k < st + H.cnt
    · simp only [if_pos h]; exact B.svT nm x st k h1 h
    · simp only [if_neg h, Bool.true_or]; exact C.svT nm x (st + H.cnt) k (by omega) (by omega)
  rcT := by
    intro nm x st k h1 h2 hn
    simp only [Hand.andThen] at h2
    simp only [Part.andThen, rcThen, B.cnt]
    by_cases h : k < st + H.cnt
    · simp only [if_pos h]; exact B.rcT nm x st k h1 h hn
    · simp only [if_neg h, Bool.and_eq_true]
      exact ⟨B.free nm x st (fun i a b => hn i a (by omega)), C.rcT nm x (st + H.cnt) k (by omega) (by omega) (fun i a b => hn i (by omega) b)⟩
  svF := by
    intro nm x st k h1 h2 hn
    simp only [Hand.andThen] at h2 ⊢
    by_cases h : k < st + H.cnt
    · simp only [if_pos h]; exact B.svF nm x st k h1 h hn
    · have hp := B.pass nm x st (fun i a b _ => hn i a (by omega))
      rw [B.free nm x st (fun i a b => hn i a (by omega))] at hp
      have ha : H.addS nm x st = false := by
        cases e : H.addS nm x st with
        | false => rfl
        | true => rw [e] at hp; cases hp
      simp only [if_neg h, ha, Bool.or_false]
      exact C.svF nm x (st + H.cnt) k (by omega) (by omega) (fun i a b => hn i (by omega) b)
  reach := by
    intro nm x st k h1 h2 hn
    simp only [Hand.andThen] at h2 hn
    simp only [Part.andThen, rcThen, B.cnt, Hand.andThen]
    by_cases h : k < st + H.cnt
    · simp only [if_pos h]
      exact B.reach nm x st k h1 h (fun i a b c => hn i a b (by simp only [if_pos (show i < st + H.cnt by omega)]; exact c))
    · simp only [if_neg h]
      have hp := B.pass nm x st (fun i a b c => hn i a (by omega) (by simp only [if_pos b]; exact c))
      have hr := C.reach nm x (st + H.cnt) k (by omega) (by omega) (fun i a b c => hn i (by omega) b (by simp only [if_neg (show ¬ i < st + H.cnt by omega)]; exact c))
      rw [hp, hr]
      cases e : H.addS nm x st with
      | false => simp
      | true =>
        simp only [Bool.not_true, Bool.false_and, Bool.or_true]
        rw [C.svT nm x (st + H.cnt) k (by omega) (by omega)]
        rfl
theorem Both.orElse (B : Both P H) (C : Both Q K) : Both (P.orElse Q) (H.orElse K) where
  cnt := by simp only [Part.orElse, Hand.orElse, B.cnt, C.cnt]
  ok := POk.or B.ok C.ok
  deep := by
    intro st k h1 h2
    simp only [Hand.orElse] at h2 ⊢
    by_cases h : k < st + H.cnt
    · simp only [if_pos h]; exact B.deep st k h1 h
    · simp only [if_neg h]; exact C.deep (st + H.cnt) k (by omega) (by omega)
  free := by
    intro nm x st h
    simp only [Hand.orElse] at h
    simp only [Part.orElse, psOr, B.cnt, Bool.or_eq_true]
    exact Or.inl (B.free nm x st (fun i a b => h i a (by omega)))
  pass := by
    intro nm x st h
    simp only [Hand.orElse] at h
    have h1 := B.pass nm x st (fun i a b c => h i a (by omega) (by simp only [if_pos b]; exact c))
    have h2 := C.pass nm x (st + H.cnt) (fun i a b c => h i (by omega) (by omega) (by simp only [if_neg (show ¬ i < st + H.cnt by omega)]; exact c))
    simp only [Part.orElse, psOr, B.cnt, Hand.orElse, h1, h2, Bool.not_and]
  svT := by
    intro nm x st k h1 h2
    simp only [Hand.orElse] at h2 ⊢
    by_cases h : k < st + H.cnt
    · simp only [if_pos h]; exact B.svT nm x st k h1 h
    · simp only [if_neg h]; exact C.svT nm x (st + H.cnt) k (by omega) (by omega)
  rcT := by
    intro nm x st k h1 h2 hn
    simp only [Hand.orElse] at h2
    simp only [Part.orElse, rcOr, B.cnt]
    by_cases h : k < st + H.cnt
    · simp only [if_pos h]; exact B.rcT nm x st k h1 h hn
    · simp only [if_neg h]
      exact C.rcT nm x (st + H.cnt) k (by omega) (by omega) (fun i a b => hn i (by omega) b)
  svF := by
    intro nm x st k h1 h2 hn
    simp only [Hand.orElse] at h2 ⊢
    by_cases h : k < st + H.cnt
    · simp only [if_pos h]; exact B.svF nm x st k h1 h hn
    · simp only [if_neg h]
      exact C.svF nm x (st + H.cnt) k (by omega) (by omega) (fun i a b => hn i (by omega) b)
  reach := by
    intro nm x st k h1 h2 hn
    simp only [Hand.orElse] at h2 hn
    simp only [Part.orElse, rcOr, B.cnt, Hand.orElse]
    by_cases h : k < st + H.cnt
    · simp only [if_pos h]
      exact B.reach nm x st k h1 h (fun i a b c => hn i a b (by simp only [if_pos (show i < st + H.cnt by omega)]; exact c))
    · simp only [if_neg h]
      exact C.reach nm x (st + H.cnt) k (by omega) (by omega) (fun i a b c => hn i (by omega) b (by simp only [if_neg (show ¬ i < st + H.cnt by omega)]; exact c))
end
end Go.Proofs.YtcboiapggnmpfaaGreat

namespace Go.Proofs.YtcboiapggnmpfaaGreat

def allOk : Nat → Bool := fun _ => true
/-- Step i stands ahead of step k on some way, and neither in a repetition round both (told for a k that stands in none). -/
abbrev Ah := Nat → Nat → Nat → Bool
def ahOne : Ah := fun _ _ _ => false
def ahThen (n : Nat) (a b : Ah) : Ah := fun i st k =>
  if i < st + n then (if k < st + n then a i st k else true) else (if k < st + n then false else b i (st + n) k)
def ahOr (n : Nat) (a b : Ah) : Ah := fun i st k =>
  if i < st + n then (if k < st + n then a i st k else false) else (if k < st + n then false else b i (st + n) k)
def ahRound : Ah := fun _ _ _ => true
structure Fwd (P : Part) (H : Hand) (ah : Ah) : Prop where
  both : Both P H
  psA : ∀ st, P.ps allOk st = true
  rcA : ∀ st k, st ≤ k → k < st + H.cnt → P.rc allOk st k = true
  up : ∀ fr to pt st S i, st ≤ i → i < st + H.cnt → Shuts allOk (P.pl fr to pt st).1 S → (∀ e ∈ (P.pl fr to pt st).1, e.st = (i : Int) → S e.to) →
    S to ∧ ∀ e ∈ (P.pl fr to pt st).1, 0 ≤ e.st → H.ir false st e.st.toNat = false → ah i st e.st.toNat = true → S e.fr
  down : ∀ fr to pt st (S0 : Nat → Prop) i, st ≤ i → i < st + H.cnt → fr < pt → to < pt → S0 to →
    ∃ S1 : Nat → Prop, (∀ x, x < pt → (S1 x ↔ S0 x)) ∧ Shuts allOk (P.pl fr to pt st).1 S1 ∧ (∀ e ∈ (P.pl fr to pt st).1, e.st = (i : Int) → S1 e.to) ∧
      ∀ e ∈ (P.pl fr to pt st).1, 0 ≤ e.st → H.ir false st e.st.toNat = false → (S1 e.fr ↔ (S0 fr ∨ ah i st e.st.toNat = true))
  lt : ∀ st i k, st ≤ i → i < st + H.cnt → st ≤ k → k < st + H.cnt → H.ir false st k = false → ah i st k = true → i < k
  addM : ∀ (nm : Nat → Int) (x : Int) st, H.addM nm x st = true ↔ ∃ i, st ≤ i ∧ i < st + H.cnt ∧ H.ir false st i = false ∧ nm i = x
  svM : ∀ (nm : Nat → Int) (x : Int) r st k, st ≤ k → k < st + H.cnt → H.ir false st k = false →
    (H.svM nm x r st k = true ↔ (r = true ∨ ∃ i, st ≤ i ∧ i < st + H.cnt ∧ H.ir false st i = false ∧ nm i = x ∧ ah i st k = true))
theorem Fwd.one : Fwd Part.one Hand.one ahOne where
  both := Both.one
  psA := by intro st; rfl
  rcA := by intro st k _ _; rfl
  up := by
    intro fr to pt st S i h1 h2 hS hi
    have : i = st := by simp only [Hand.one] at h2; omega
    subst this
    refine ⟨hi ⟨fr, to, (i : Int)⟩ (by simp [Part.one, plOne]) rfl, ?_⟩
    intro e _ _ _ h
    simp [ahOne] at h
  down := by
    intro fr to pt st S0 i h1 h2 hf ht h0
    refine ⟨S0, fun _ _ => Iff.rfl, ?_, ?_, ?_⟩
    · intro e he _ _
      simp only [Part.one, plOne, List.mem_cons, List.not_mem_nil, or_false] at he
      subst he; exact h0
    · intro e he _
      simp only [Part.one, plOne, List.mem_cons, List.not_mem_nil, or_false] at he
      subst he; exact h0
    · intro e he _ _
      simp only [Part.one, plOne, List.mem_cons, List.not_mem_nil, or_false] at he
      subst he; simp [ahOne]
  lt := by intro st i k _ _ _ _ _ h; simp [ahOne] at h
  addM := by
    intro nm x st
    simp only [Hand.one, decide_eq_true_eq]
    constructor
    · intro h; exact ⟨st, Nat.le_refl _, by omega, trivial, h⟩
    · rintro ⟨i, h1, h2, _, h⟩
      have : i = st := by omega
      subst this; exact h
  svM := by
    intro nm x r st k _ _ _
    simp [Hand.one, ahOne]
section
variable {P Q : Part} {H K : Hand} {a b : Ah}
theorem Fwd.round (F : Fwd P H a) (lo hi : Int) : Fwd (P.round lo hi) H.round ahRound where
  both := F.both.round lo hi
  psA := by intro st; simp [Part.round, psRound, F.psA]
  rcA := F.rcA
  up := by
    intro fr to pt st S i h1 h2 hS hi
    simp only [Part.round, plRound] at hS hi ⊢
    obtain ⟨hF, hE⟩ := Shuts.append.1 hS
    obtain ⟨u1, _⟩ := F.up pt (pt + 1) (pt + 2) st S i h1 h2 hE (fun e he hk => hi e (List.mem_append_right _ he) hk)
    refine ⟨hF ⟨pt + 1, to, -1⟩ (by simp [freeE]) (Or.inl (by simp)) u1, ?_⟩
    intro e he h0 hr
    exfalso
    rcases List.mem_append.1 he with he | he
    · have := freeE_st he; omega
    · have hl := F.both.ok.lo he h0
      rw [F.both.cnt] at hl
      have : H.ir true st e.st.toNat = false := hr
      rw [F.both.deep st _ hl.1 hl.2] at this
      cases this
  down := by
    intro fr to pt st S0 i h1 h2 hf ht h0
    let T : Nat → Prop := fun x => if x < pt then S0 x else True
    have To : ∀ x, x < pt → (T x ↔ S0 x) := by intro x hx; simp [T, hx]
    have Tn : ∀ x, pt ≤ x → T x := by intro x hx; have : ¬ x < pt := by omega
                                      simp [T, this]
    obtain ⟨S1, k1, k2, k3, k4⟩ := F.down pt (pt + 1) (pt + 2) st T i h1 h2 (by omega) (by omega) (Tn _ (by omega))
    refine ⟨S1, ?_, ?_, ?_, ?_⟩
    · intro x hx; rw [k1 x (by omega), To x hx]
    · simp only [Part.round, plRound]
      refine Shuts.append.2 ⟨?_, k2⟩
      intro e he _ _
      have ka : S1 pt := (k1 pt (by omega)).2 (Tn _ (Nat.le_refl _))
      have kb : S1 (pt + 1) := (k1 (pt + 1) (by omega)).2 (Tn _ (by omega))
      have kt : S1 to := (k1 to (by omega)).2 ((To to ht).2 h0)
      rcases mem_freeE he with h | h | h | ⟨_, h⟩ <;> subst h <;> assumption
    · intro e he hk
      simp only [Part.round, plRound] at he
      rcases List.mem_append.1 he with he | he
      · have := freeE_st he; omega
      · exact k3 e he hk
    · intro e he hk0 hr
      exfalso
      simp only [Part.round, plRound] at he
      rcases List.mem_append.1 he with he | he
      · have := freeE_st he; omega
      · have hl := F.both.ok.lo he hk0
        rw [F.both.cnt] at hl
        have : H.ir true st e.st.toNat = false := hr
        rw [F.both.deep st _ hl.1 hl.2] at this
        cases this
  lt := by
    intro st i k _ _ h1 h2 hr _
    have : H.ir true st k = false := hr
    rw [F.both.deep st k h1 h2] at this
    cases this
  addM := by
    intro nm x st
    constructor
    · intro h; cases h
    · rintro ⟨i, h1, h2, hr, _⟩
      have : H.ir true st i = false := hr
      rw [F.both.deep st i h1 h2] at this
      cases this
  svM := by
    intro nm x r st k h1 h2 hr
    have : H.ir true st k = false := hr
    rw [F.both.deep st k h1 h2] at this
    cases this
theorem Fwd.andThen (F : Fwd P H a) (G : Fwd Q K b) : Fwd (P.andThen Q) (H.andThen K) (ahThen H.cnt a b) where
  both := F.both.andThen G.both
  psA := by intro st; simp [Part.andThen, psThen, F.psA, G.psA]
  rcA := by
    intro st k h1 h2
    simp only [Hand.andThen] at h2
    simp only [Part.andThen, rcThen, F.both.cnt, F.psA]
    by_cases h : k < st + H.cnt
    · simp only [if_pos h]; exact F.rcA st k h1 h
    · simp only [if_neg h, Bool.true_and]; exact G.rcA (st + H.cnt) k (by omega) (by omega)
  up := by
    intro fr to pt st S i h1 h2 hS hi
    simp only [Hand.andThen] at h2
    simp only [Part.andThen, plThen, F.both.cnt] at hS hi ⊢
    obtain ⟨hA, hB⟩ := Shuts.append.1 hS
    by_cases hil : i < st + H.cnt
    · obtain ⟨u1, u2⟩ := F.up fr pt (pt + 1) st S i h1 hil hA (fun e he hk => hi e (List.mem_append_left _ he) hk)
      have v := G.both.ok.up allOk pt to _ (st + H.cnt) S hB u1
      refine ⟨v.1 (G.psA _), ?_⟩
      intro e he h0 hr hah
      rcases List.mem_append.1 he with he | he
      · have hl := F.both.ok.lo he h0
        rw [F.both.cnt] at hl
        simp only [Hand.andThen, if_pos hl.2] at hr
        simp only [ahThen, if_pos hil, if_pos hl.2] at hah
        exact u2 e he h0 hr hah
      · have hl := G.both.ok.lo he h0
        rw [G.both.cnt] at hl
        exact v.2 e he h0 (G.rcA _ _ hl.1 hl.2)
    · obtain ⟨u1, u2⟩ := G.up pt to _ (st + H.cnt) S i (by omega) (by omega) hB (fun e he hk => hi e (List.mem_append_right _ he) hk)
      refine ⟨u1, ?_⟩
      intro e he h0 hr hah
      rcases List.mem_append.1 he with he | he
      · have hl := F.both.ok.lo he h0
        rw [F.both.cnt] at hl
        simp only [ahThen, if_neg hil, if_pos hl.2] at hah
        cases hah
      · have hl := G.both.ok.lo he h0
        rw [G.both.cnt] at hl
        have hnl : ¬ e.st.toNat < st + H.cnt := by omega
        simp only [Hand.andThen, if_neg hnl] at hr
        simp only [ahThen, if_neg hil, if_neg hnl] at hah
        exact u2 e he h0 hr hah
  down := by
    intro fr to pt st S0 i h1 h2 hf ht h0
    simp only [Hand.andThen] at h2
    have g1 := F.both.ok.grow fr pt (pt + 1) st
    by_cases hil : i < st + H.cnt
    · let T : Nat → Prop := fun x => if x < pt then S0 x else True
      have To : ∀ x, x < pt → (T x ↔ S0 x) := by intro x hx; simp [T, hx]
      have Tm : T pt := by simp [T]
      obtain ⟨A, k1, k2, k3, k4⟩ := F.down fr pt (pt + 1) st T i h1 hil (by omega) (by omega) Tm
      have Am : A pt := (k1 pt (by omega)).2 Tm
      have Ao : ∀ x, x < pt → (A x ↔ S0 x) := by intro x hx; rw [k1 x (by omega), To x hx]
      obtain ⟨B, m1, m2, m3⟩ := G.both.ok.down allOk pt to (P.pl fr pt (pt + 1) st).2 (st + H.cnt) A (by omega) (by omega) (fun _ _ => (Ao to ht).2 h0)
      refine ⟨B, ?_, ?_, ?_, ?_⟩
      · intro x hx; rw [m1 x (by omega), Ao x hx]
      · simp only [Part.andThen, plThen, F.both.cnt]
        refine Shuts.append.2 ⟨?_, m2⟩
        intro e he hok hs
        obtain ⟨q1, q2⟩ := F.both.ok.points fr pt (pt + 1) st (by omega) (by omega) e he
        rw [m1 _ q2]; rw [m1 _ q1] at hs
        exact k2 e he hok hs
      · intro e he hk
        simp only [Part.andThen, plThen, F.both.cnt] at he
        rcases List.mem_append.1 he with he | he
        · obtain ⟨q1, q2⟩ := F.both.ok.points fr pt (pt + 1) st (by omega) (by omega) e he
          rw [m1 _ q2]; exact k3 e he hk
        · have hl := G.both.ok.lo he (by omega)
          omega
      · intro e he hk0 hr
        simp only [Part.andThen, plThen, F.both.cnt] at he
        rcases List.mem_append.1 he with he | he
        · have hl := F.both.ok.lo he hk0
          rw [F.both.cnt] at hl
          obtain ⟨q1, q2⟩ := F.both.ok.points fr pt (pt + 1) st (by omega) (by omega) e he
          simp only [Hand.andThen, if_pos hl.2] at hr
          rw [m1 _ q1, k4 e he hk0 hr, To fr hf]
          simp only [ahThen, if_pos hil, if_pos hl.2]
        · have hl := G.both.ok.lo he hk0
          rw [G.both.cnt] at hl
          have hnl : ¬ e.st.toNat < st + H.cnt := by omega
          rw [m3 e he hk0, G.rcA _ _ hl.1 hl.2]
          simp only [ahThen, if_pos hil, if_neg hnl]
          simp [Am]
    · let T : Nat → Prop := fun x => if x < pt then S0 x else S0 fr
      have To : ∀ x, x < pt → (T x ↔ S0 x) := by intro x hx; simp [T, hx]
      have Tm : T pt ↔ S0 fr := by simp [T]
      obtain ⟨A, k1, k2, k3⟩ := F.both.ok.down allOk fr pt (pt + 1) st T (by omega) (by omega) (fun h _ => Tm.2 ((To fr hf).1 h))
      have Am : A pt ↔ S0 fr := by rw [k1 pt (by omega), Tm]
      have Ao : ∀ x, x < pt → (A x ↔ S0 x) := by intro x hx; rw [k1 x (by omega), To x hx]
      obtain ⟨B, m1, m2, m3, m4⟩ := G.down pt to (P.pl fr pt (pt + 1) st).2 (st + H.cnt) A i (by omega) (by omega) (by omega) (by omega) ((Ao to ht).2 h0)
      refine ⟨B, ?_, ?_, ?_, ?_⟩
      · intro x hx; rw [m1 x (by omega), Ao x hx]
      · simp only [Part.andThen, plThen, F.both.cnt]
        refine Shuts.append.2 ⟨?_, m2⟩
        intro e he hok hs
        obtain ⟨q1, q2⟩ := F.both.ok.points fr pt (pt + 1) st (by omega) (by omega) e he
        rw [m1 _ q2]; rw [m1 _ q1] at hs
        exact k2 e he hok hs
      · intro e he hk
        simp only [Part.andThen, plThen, F.both.cnt] at he
        rcases List.mem_append.1 he with he | he
        · have hl := F.both.ok.lo he (by omega)
          rw [F.both.cnt] at hl
          omega
        · exact m3 e he hk
      · intro e he hk0 hr
        simp only [Part.andThen, plThen, F.both.cnt] at he
        rcases List.mem_append.1 he with he | he
        · have hl := F.both.ok.lo he hk0
          rw [F.both.cnt] at hl
          obtain ⟨q1, q2⟩ := F.both.ok.points fr pt (pt + 1) st (by omega) (by omega) e he
          rw [m1 _ q1, k3 e he hk0, F.rcA _ _ hl.1 hl.2, To fr hf]
          simp only [ahThen, if_neg hil, if_pos hl.2]
          simp
        · have hl := G.both.ok.lo he hk0
          rw [G.both.cnt] at hl
          have hnl : ¬ e.st.toNat < st + H.cnt := by omega
          simp only [Hand.andThen, if_neg hnl] at hr
          rw [m4 e he hk0 hr, Am]
          simp only [ahThen, if_neg hil, if_neg hnl]
  lt := by
    intro st i k h1 h2 h3 h4 hr hah
    simp only [Hand.andThen] at h2 h4 hr
    simp only [ahThen] at hah
    by_cases hil : i < st + H.cnt
    · by_cases hkl : k < st + H.cnt
      · simp only [if_pos hil, if_pos hkl] at hah hr
        exact F.lt st i k h1 hil h3 hkl hr hah
      · omega
    · by_cases hkl : k < st + H.cnt
      · simp only [if_neg hil, if_pos hkl] at hah; cases hah
      · simp only [if_neg hil, if_neg hkl] at hah hr
        exact G.lt (st + H.cnt) i k (by omega) (by omega) (by omega) (by omega) hr hah
  addM := by
    intro nm x st
    simp only [Hand.andThen, Bool.or_eq_true, F.addM, G.addM]
    constructor
    · rintro (⟨i, h1, h2, h3, h4⟩ | ⟨i, h1, h2, h3, h4⟩)
      · exact ⟨i, h1, by omega, by simp only [if_pos h2]; exact h3, h4⟩
      · exact ⟨i, by omega, by omega, by simp only [if_neg (show ¬ i < st + H.cnt by omega)]; exact h3, h4⟩
    · rintro ⟨i, h1, h2, h3, h4⟩
      by_cases hil : i < st + H.cnt
      · simp only [if_pos hil] at h3; exact Or.inl ⟨i, h1, hil, h3, h4⟩
      · simp only [if_neg hil] at h3; exact Or.inr ⟨i, by omega, by omega, h3, h4⟩
  svM := by
    intro nm x r st k h1 h2 hr
    simp only [Hand.andThen] at h2 hr ⊢
    by_cases hkl : k < st + H.cnt
    · simp only [if_pos hkl] at hr ⊢
      rw [F.svM nm x r st k h1 hkl hr]
      constructor
      · rintro (h | ⟨i, a1, a2, a3, a4, a5⟩)
        · exact Or.inl h
        · exact Or.inr ⟨i, a1, by omega, by simp only [if_pos a2]; exact a3, a4, by simp only [ahThen, if_pos a2, if_pos hkl]; exact a5⟩
      · rintro (h | ⟨i, a1, a2, a3, a4, a5⟩)
        · exact Or.inl h
        · by_cases hil : i < st + H.cnt
          · simp only [ahThen, if_pos hil, if_pos hkl] at a3 a5
            exact Or.inr ⟨i, a1, hil, a3, a4, a5⟩
          · simp only [ahThen, if_neg hil, if_pos hkl] at a5; cases a5
    · simp only [if_neg hkl] at hr ⊢
      rw [G.svM nm x _ (st + H.cnt) k (by omega) (by omega) hr, Bool.or_eq_true, F.addM]
      constructor
      · rintro ((h | ⟨i, a1, a2, a3, a4⟩) | ⟨i, a1, a2, a3, a4, a5⟩)
        · exact Or.inl h
        · exact Or.inr ⟨i, a1, by omega, by simp only [if_pos a2]; exact a3, a4, by simp only [ahThen, if_pos a2, if_neg hkl]⟩
        · have hil : ¬ i < st + H.cnt := by omega
          exact Or.inr ⟨i, by omega, by omega, by simp only [if_neg hil]; exact a3, a4, by simp only [ahThen, if_neg hil, if_neg hkl]; exact a5⟩
      · rintro (h | ⟨i, a1, a2, a3, a4, a5⟩)
        · exact Or.inl (Or.inl h)
        · by_cases hil : i < st + H.cnt
          · simp only [if_pos hil] at a3
            exact Or.inl (Or.inr ⟨i, a1, hil, a3, a4⟩)
          · simp only [if_neg hil] at a3
            simp only [ahThen, if_neg hil, if_neg hkl] at a5
            exact Or.inr ⟨i, by omega, by omega, a3, a4, a5⟩
theorem Fwd.orElse (F : Fwd P H a) (G : Fwd Q K b) : Fwd (P.orElse Q) (H.orElse K) (ahOr H.cnt a b) where
  both := F.both.orElse G.both
  psA := by intro st; simp [Part.orElse, psOr, F.psA, G.psA]
  rcA := by
    intro st k h1 h2
    simp only [Hand.orElse] at h2
    simp only [Part.orElse, rcOr, F.both.cnt]
    by_cases h : k < st + H.cnt
    · simp only [if_pos h]; exact F.rcA st k h1 h
    · simp only [if_neg h]; exact G.rcA (st + H.cnt) k (by omega) (by omega)
  up := by
    intro fr to pt st S i h1 h2 hS hi
    simp only [Hand.orElse] at h2
    simp only [Part.orElse, plOr, F.both.cnt] at hS hi ⊢
    obtain ⟨hA, hB⟩ := Shuts.append.1 hS
    by_cases hil : i < st + H.cnt
    · obtain ⟨u1, u2⟩ := F.up fr to pt st S i h1 hil hA (fun e he hk => hi e (List.mem_append_left _ he) hk)
      refine ⟨u1, ?_⟩
      intro e he h0 hr hah
      rcases List.mem_append.1 he with he | he
      · have hl := F.both.ok.lo he h0
        rw [F.both.cnt] at hl
        simp only [Hand.orElse, if_pos hl.2] at hr
        simp only [ahOr, if_pos hil, if_pos hl.2] at hah
        exact u2 e he h0 hr hah
      · have hl := G.both.ok.lo he h0
        have hnl : ¬ e.st.toNat < st + H.cnt := by omega
        simp only [ahOr, if_pos hil, if_neg hnl] at hah
        cases hah
    · obtain ⟨u1, u2⟩ := G.up fr to _ (st + H.cnt) S i (by omega) (by omega) hB (fun e he hk => hi e (List.mem_append_right _ he) hk)
      refine ⟨u1, ?_⟩
      intro e he h0 hr hah
      rcases List.mem_append.1 he with he | he
      · have hl := F.both.ok.lo he h0
        rw [F.both.cnt] at hl
        simp only [ahOr, if_neg hil, if_pos hl.2] at hah
        cases hah
      · have hl := G.both.ok.lo he h0
        have hnl : ¬ e.st.toNat < st + H.cnt := by omega
        simp only [Hand.orElse, if_neg hnl] at hr
        simp only [ahOr, if_neg hil, if_neg hnl] at hah
        exact u2 e he h0 hr hah
  down := by
    intro fr to pt st S0 i h1 h2 hf ht h0
    simp only [Hand.orElse] at h2
    have g1 := F.both.ok.grow fr to pt st
    by_cases hil : i < st + H.cnt
    · obtain ⟨A, k1, k2, k3, k4⟩ := F.down fr to pt st S0 i h1 hil hf ht h0
      obtain ⟨B, m1, m2, m3⟩ := G.both.ok.down allOk fr to (P.pl fr to pt st).2 (st + H.cnt) A (by omega) (by omega) (fun _ _ => (k1 to ht).2 h0)
      refine ⟨B, ?_, ?_, ?_, ?_⟩
      · intro x hx; rw [m1 x (by omega), k1 x hx]
      · simp only [Part.orElse, plOr, F.both.cnt]
        refine Shuts.append.2 ⟨?_, m2⟩
        intro e he hok hs
        obtain ⟨q1, q2⟩ := F.both.ok.points fr to pt st hf ht e he
        rw [m1 _ q2]; rw [m1 _ q1] at hs
        exact k2 e he hok hs
      · intro e he hk
        simp only [Part.orElse, plOr, F.both.cnt] at he
        rcases List.mem_append.1 he with he | he
        · obtain ⟨q1, q2⟩ := F.both.ok.points fr to pt st hf ht e he
          rw [m1 _ q2]; exact k3 e he hk
        · have hl := G.both.ok.lo he (by omega)
          omega
      · intro e he hk0 hr
        simp only [Part.orElse, plOr, F.both.cnt] at he
        rcases List.mem_append.1 he with he | he
        · have hl := F.both.ok.lo he hk0
          rw [F.both.cnt] at hl
          obtain ⟨q1, q2⟩ := F.both.ok.points fr to pt st hf ht e he
          simp only [Hand.orElse, if_pos hl.2] at hr
          rw [m1 _ q1, k4 e he hk0 hr]
          simp only [ahOr, if_pos hil, if_pos hl.2]
        · have hl := G.both.ok.lo he hk0
          rw [G.both.cnt] at hl
          have hnl : ¬ e.st.toNat < st + H.cnt := by omega
          rw [m3 e he hk0, G.rcA _ _ hl.1 hl.2, k1 fr hf]
          simp only [ahOr, if_pos hil, if_neg hnl]
          simp
    · obtain ⟨A, k1, k2, k3⟩ := F.both.ok.down allOk fr to pt st S0 hf ht (fun _ _ => h0)
      obtain ⟨B, m1, m2, m3, m4⟩ := G.down fr to (P.pl fr to pt st).2 (st + H.cnt) A i (by omega) (by omega) (by omega) (by omega) ((k1 to ht).2 h0)
      refine ⟨B, ?_, ?_, ?_, ?_⟩
      · intro x hx; rw [m1 x (by omega), k1 x hx]
      · simp only [Part.orElse, plOr, F.both.cnt]
        refine Shuts.append.2 ⟨?_, m2⟩
        intro e he hok hs
        obtain ⟨q1, q2⟩ := F.both.ok.points fr to pt st hf ht e he
        rw [m1 _ q2]; rw [m1 _ q1] at hs
        exact k2 e he hok hs
      · intro e he hk
        simp only [Part.orElse, plOr, F.both.cnt] at he
        rcases List.mem_append.1 he with he | he
        · have hl := F.both.ok.lo he (by omega)
          rw [F.both.cnt] at hl
          omega
        · exact m3 e he hk
      · intro e he hk0 hr
        simp only [Part.orElse, plOr, F.both.cnt] at he
        rcases List.mem_append.1 he with he | he
        · have hl := F.both.ok.lo he hk0
          rw [F.both.cnt] at hl
          obtain ⟨q1, q2⟩ := F.both.ok.points fr to pt st hf ht e he
          rw [m1 _ q1, k3 e he hk0, F.rcA _ _ hl.1 hl.2]
          simp only [ahOr, if_neg hil, if_pos hl.2]
          simp
        · have hl := G.both.ok.lo he hk0
          have hnl : ¬ e.st.toNat < st + H.cnt := by omega
          simp only [Hand.orElse, if_neg hnl] at hr
          rw [m4 e he hk0 hr, k1 fr hf]
          simp only [ahOr, if_neg hil, if_neg hnl]
  lt := by
    intro st i k h1 h2 h3 h4 hr hah
    simp only [Hand.orElse] at h2 h4 hr
    simp only [ahOr] at hah
    by_cases hil : i < st + H.cnt
    · by_cases hkl : k < st + H.cnt
      · simp only [if_pos hil, if_pos hkl] at hah hr
        exact F.lt st i k h1 hil h3 hkl hr hah
      · omega
    · by_cases hkl : k < st + H.cnt
      · simp only [if_neg hil, if_pos hkl] at hah; cases hah
      · simp only [if_neg hil, if_neg hkl] at hah hr
        exact G.lt (st + H.cnt) i k (by omega) (by omega) (by omega) (by omega) hr hah
  addM := by
    intro nm x st
    simp only [Hand.orElse, Bool.or_eq_true, F.addM, G.addM]
    constructor
    · rintro (⟨i, h1, h2, h3, h4⟩ | ⟨i, h1, h2, h3, h4⟩)
      · exact ⟨i, h1, by omega, by simp only [if_pos h2]; exact h3, h4⟩
      · exact ⟨i, by omega, by omega, by simp only [if_neg (show ¬ i < st + H.cnt by omega)]; exact h3, h4⟩
    · rintro ⟨i, h1, h2, h3, h4⟩
      by_cases hil : i < st + H.cnt
      · simp only [if_pos hil] at h3; exact Or.inl ⟨i, h1, hil, h3, h4⟩
      · simp only [if_neg hil] at h3; exact Or.inr ⟨i, by omega, by omega, h3, h4⟩
  svM := by
    intro nm x r st k h1 h2 hr
    simp only [Hand.orElse] at h2 hr ⊢
    by_cases hkl : k < st + H.cnt
    · simp only [if_pos hkl] at hr ⊢
      rw [F.svM nm x r st k h1 hkl hr]
      constructor
      · rintro (h | ⟨i, a1, a2, a3, a4, a5⟩)
        · exact Or.inl h
        · exact Or.inr ⟨i, a1, by omega, by simp only [if_pos a2]; exact a3, a4, by simp only [ahOr, if_pos a2, if_pos hkl]; exact a5⟩
      · rintro (h | ⟨i, a1, a2, a3, a4, a5⟩)
        · exact Or.inl h
        · by_cases hil : i < st + H.cnt
          · simp only [ahOr, if_pos hil, if_pos hkl] at a3 a5
            exact Or.inr ⟨i, a1, hil, a3, a4, a5⟩
          · simp only [ahOr, if_neg hil, if_pos hkl] at a5; cases a5
    · simp only [if_neg hkl] at hr ⊢
      rw [G.svM nm x _ (st + H.cnt) k (by omega) (by omega) hr]
      constructor
      · rintro (h | ⟨i, a1, a2, a3, a4, a5⟩)
        · exact Or.inl h
        · have hil : ¬ i < st + H.cnt := by omega
          exact Or.inr ⟨i, by omega, by omega, by simp only [if_neg hil]; exact a3, a4, by simp only [ahOr, if_neg hil, if_neg hkl]; exact a5⟩
      · rintro (h | ⟨i, a1, a2, a3, a4, a5⟩)
        · exact Or.inl h
        · by_cases hil : i < st + H.cnt
          · simp only [ahOr, if_pos hil, if_neg hkl] at a5; cases a5
          · simp only [if_neg hil] at a3
            simp only [ahOr, if_neg hil, if_neg hkl] at a5
            exact Or.inr ⟨i, by omega, by omega, a3, a4, a5⟩
end
/-- A part as the graph sees it, as sets see it, and which of its steps stand ahead of which. -/
structure Tri where
  P : Part
  H : Hand
  ah : Ah
def Tri.Ok (T : Tri) : Prop := Fwd T.P T.H T.ah
def Tri.one : Tri := ⟨Part.one, Hand.one, ahOne⟩
def Tri.round (lo hi : Int) (T : Tri) : Tri := ⟨T.P.round lo hi, T.H.round, ahRound⟩
def Tri.andThen (T U : Tri) : Tri := ⟨T.P.andThen U.P, T.H.andThen U.H, ahThen T.H.cnt T.ah U.ah⟩
def Tri.orElse (T U : Tri) : Tri := ⟨T.P.orElse U.P, T.H.orElse U.H, ahOr T.H.cnt T.ah U.ah⟩
section
variable {α : Type} (f : α → Tri)
def repT (x : α × Rep) : Tri :=
  match x.2 with
  | none => f x.1
  | some (lo, hi) => (f x.1).round lo hi
def seqT : α × Rep → List (α × Rep) → Tri
  | x, [] => repT f x
  | x, y :: ys => (repT f x).andThen (seqT y ys)
def altT : SeqOf α → List (SeqOf α) → Tri
  | s, [] => seqT f s.1 s.2
  | s, t :: ts => (seqT f s.1 s.2).orElse (altT t ts)
variable {f}
theorem repT_ok (h : ∀ a, (f a).Ok) (x : α × Rep) : (repT f x).Ok := by
  obtain ⟨a, q⟩ := x
  match q with
  | none => exact h a
  | some (lo, hi) => exact Fwd.round (h a) lo hi
theorem seqT_ok (h : ∀ a, (f a).Ok) : ∀ (ys : List (α × Rep)) (x : α × Rep), (seqT f x ys).Ok := by
  intro ys
  induction ys with
  | nil => intro x; exact repT_ok h x
  | cons y ys ih => intro x; exact Fwd.andThen (repT_ok h x) (ih y)
theorem altT_ok (h : ∀ a, (f a).Ok) : ∀ (ts : List (SeqOf α)) (s : SeqOf α), (altT f s ts).Ok := by
  intro ts
  induction ts with
  | nil => intro s; exact seqT_ok h s.2 s.1
  | cons t ts ih => intro s; exact Fwd.orElse (seqT_ok h s.2 s.1) (ih t)
end
def atomT : (n : Nat) → Atom n → Tri
  | 0, _ => Tri.one
  | _ + 1, .inl _ => Tri.one
  | n + 1, .inr t => altT (atomT n) t.1 t.2
theorem atomT_ok : ∀ (n : Nat) (a : Atom n), (atomT n a).Ok := by
  intro n
  induction n with
  | zero => intro a; exact Fwd.one
  | succ n ih =>
    intro a
    match a with
    | .inl s => exact Fwd.one
    | .inr t => exact altT_ok ih t.2 t.1
/-- x can be reached from src. -/
def Reach (ok : Nat → Bool) (E : List Eg) (src x : Nat) : Prop := ∀ S : Nat → Prop, S src → Shuts ok E S → S x
/-- Is the name x held on every way to step k? By the graph, and by the sets. -/
theorem always_iff {T : Tri} (hT : T.Ok) (nm : Nat → Int) (x : Int) (k : Nat) (_hk : k < T.H.cnt) (hn : ∀ i, i < k → T.H.ir false 0 i = true → ¬ nm i = x) (e : Eg) (he : e ∈ (T.P.pl 0 1 2 0).1) (hek : e.st = (k : Int)) :
    Reach (fun i => decide (¬ nm i = x)) (T.P.pl 0 1 2 0).1 0 e.fr ↔ T.H.svS nm x false 0 k = false := by
  have hr := hT.both.reach nm x 0 k (Nat.zero_le _) (by omega) (fun i _ h c => hn i h c)
  have hk' : e.st.toNat = k := by omega
  constructor
  · intro h
    obtain ⟨S1, k1, k2, k3⟩ := hT.both.ok.down (fun i => decide (¬ nm i = x)) 0 1 2 0 (fun _ => True) (by omega) (by omega) (fun _ _ => trivial)
    have h1 := h S1 ((k1 0 (by omega)).2 trivial) k2
    rw [k3 e he (by omega), hk', hr] at h1
    simpa using h1.2
  · intro h S h0 hS
    have := (hT.both.ok.up _ 0 1 2 0 S hS h0).2 e he (by omega)
    rw [hk', hr, h] at this
    exact this rfl
/-- Does step i stand ahead of step k on some way? By the graph. -/
theorem maybe_iff {T : Tri} (hT : T.Ok) (i k : Nat) (hi : i < T.H.cnt) (_hk : k < T.H.cnt) (hr : T.H.ir false 0 k = false) (d e : Eg) (hd : d ∈ (T.P.pl 0 1 2 0).1) (he : e ∈ (T.P.pl 0 1 2 0).1) (hdi : d.st = (i : Int)) (hek : e.st = (k : Int)) :
    Reach allOk (T.P.pl 0 1 2 0).1 d.to e.fr ↔ T.ah i 0 k = true := by
  have hk' : e.st.toNat = k := by omega
  constructor
  · intro h
    obtain ⟨S1, k1, k2, k3, k4⟩ := hT.down 0 1 2 0 (fun x => x = 1) i (Nat.zero_le _) (by omega) (by omega) (by omega) rfl
    have h1 := h S1 (k3 d hd hdi) k2
    rw [k4 e he (by omega) (by rw [hk']; exact hr), hk'] at h1
    rcases h1 with h1 | h1
    · omega
    · exact h1
  · intro h S h0 hS
    have := (hT.up 0 1 2 0 S i (Nat.zero_le _) (by omega) hS (fun d' hd' hdi' => by
      have : d' = d := hT.both.ok.one 0 1 2 0 d' hd' d hd (by omega) (by omega)
      rw [this]; exact h0)).2 e he (by omega)
    rw [hk'] at this
    exact this hr h
end Go.Proofs.YtcboiapggnmpfaaGreat

namespace Go.Proofs.YtcboiapggnmpfaaGreat

/-- What is asked of a step, told by numbers alone: nm, kd: the names and kinds of the steps; hk: is a kind in the schema; hf: does a kind have a field; tr: the terms of a step's tests (of, field). -/
structure Rules where
  nm : Nat → Int
  kd : Nat → Int
  tr : Nat → List (Int × Int)
/-- By the sets. 'f' answers the first step below k with a name. -/
def firstOf (nm : Nat → Int) (x : Int) : Nat → Nat
  | 0 => 0
  | k + 1 => if firstOf nm x k < k then firstOf nm x k else if nm k = x then k else k + 1
theorem firstOf_spec (nm : Nat → Int) (x : Int) : ∀ k, (firstOf nm x k < k → nm (firstOf nm x k) = x ∧ ∀ i, i < firstOf nm x k → ¬ nm i = x) ∧ (¬ firstOf nm x k < k → firstOf nm x k = k ∧ ∀ i, i < k → ¬ nm i = x) := by
  intro k
  induction k with
  | zero => exact ⟨fun h => absurd h (by omega), fun _ => ⟨rfl, fun i h => absurd h (by omega)⟩⟩
  | succ k ih =>
    simp only [firstOf]
    by_cases h : firstOf nm x k < k
    · simp only [if_pos h]
      exact ⟨fun _ => ih.1 h, fun h' => absurd (by omega : firstOf nm x k < k + 1) h'⟩
    · obtain ⟨h1, h2⟩ := ih.2 h
      simp only [if_neg h]
      by_cases hk : nm k = x
      · simp only [if_pos hk]
        exact ⟨fun _ => ⟨hk, h2⟩, fun h' => absurd (Nat.lt_succ_self k) h'⟩
      · simp only [if_neg hk]
        refine ⟨fun h' => absurd h' (Nat.lt_irrefl _), fun _ => ⟨by trivial, ?_⟩⟩
        intro i hi
        by_cases e : i = k
        · subst e; exact hk
        · exact h2 i (by omega)
section
variable (R : Rules) (hk : Int → Prop) (hf hg : Int → Int → Prop) (T : Tri) (n : Nat)
/-- Step k is right, by the sets. -/
def rightS (k : Nat) : Prop :=
  hk (R.kd k) ∧
  (R.nm k = -1 ∨ (T.H.ir false 0 k = false ∧ T.H.svM R.nm (R.nm k) false 0 k = false ∧ (firstOf R.nm (R.nm k) k < k → R.kd (firstOf R.nm (R.nm k) k) = R.kd k))) ∧
  ∀ t ∈ R.tr k, t.1 = 0 ∨ (t.1 = 1 ∧ hf (R.kd k) t.2) ∨
    (2 ≤ t.1 ∧ T.H.svS R.nm (t.1 - 2) false 0 k = true ∧ firstOf R.nm (t.1 - 2) k < k ∧ hf (R.kd (firstOf R.nm (t.1 - 2) k)) t.2)
/-- Step k is right, by the graph. -/
def rightG (k : Nat) : Prop :=
  hk (R.kd k) ∧
  (R.nm k = -1 ∨ (T.H.ir false 0 k = false ∧ (¬ ∃ i, i < n ∧ R.nm i = R.nm k ∧ ∃ d ∈ (T.P.pl 0 1 2 0).1, d.st = (i : Int) ∧ ∃ e ∈ (T.P.pl 0 1 2 0).1, e.st = (k : Int) ∧ Reach allOk (T.P.pl 0 1 2 0).1 d.to e.fr) ∧ ∀ i, i < k → R.nm i = R.nm k → R.kd i = R.kd k)) ∧
  ∀ t ∈ R.tr k, t.1 = 0 ∨ (t.1 = 1 ∧ hg (R.kd k) t.2) ∨
    (2 ≤ t.1 ∧ (¬ ∃ e ∈ (T.P.pl 0 1 2 0).1, e.st = (k : Int) ∧ Reach (fun i => decide (¬ R.nm i = t.1 - 2)) (T.P.pl 0 1 2 0).1 0 e.fr) ∧ firstOf R.nm (t.1 - 2) n < n ∧ hg (R.kd (firstOf R.nm (t.1 - 2) n)) t.2)
end
theorem firstOf_le (nm : Nat → Int) (x : Int) (k : Nat) : firstOf nm x k ≤ k := by
  by_cases h : firstOf nm x k < k
  · omega
  · have := ((firstOf_spec nm x k).2 h).1; omega
theorem firstOf_more {nm : Nat → Int} {x : Int} {k n : Nat} (h : firstOf nm x k < k) (hkn : k ≤ n) : firstOf nm x n = firstOf nm x k := by
  obtain ⟨a1, a2⟩ := (firstOf_spec nm x k).1 h
  by_cases hn : firstOf nm x n < n
  · obtain ⟨b1, b2⟩ := (firstOf_spec nm x n).1 hn
    by_cases c : firstOf nm x n < firstOf nm x k
    · exact absurd b1 (a2 _ c)
    · by_cases d : firstOf nm x k < firstOf nm x n
      · exact absurd a1 (b2 _ d)
      · omega
  · obtain ⟨_, b2⟩ := (firstOf_spec nm x n).2 hn
    exact absurd a1 (b2 _ (by omega))
/-- Of a step ahead of which all are right, both say the same. -/
theorem right_iff {R : Rules} {hk : Int → Prop} {hf hg : Int → Int → Prop} {T : Tri} (hT : T.Ok) (hfg : ∀ a f, hk a → (hf a f ↔ hg a f)) (hnm : ∀ i, R.nm i = -1 ∨ 0 ≤ R.nm i) (k : Nat) (hkn : k < T.H.cnt)
    (hS : ∀ i, i < k → rightS R hk hf T i) : rightS R hk hf T k ↔ rightG R hk hg T T.H.cnt k := by
  -- the named steps ahead stand in no repetition
  have hfree : ∀ i, i < k → T.H.ir false 0 i = true → ∀ x, 0 ≤ x → ¬ R.nm i = x := by
    intro i hi hr x hx e
    rcases (hS i hi).2.1 with h | ⟨h, _⟩
    · omega
    · rw [h] at hr; cases hr
  have hkd : ∀ i, i < k → hk (R.kd i) := fun i hi => (hS i hi).1
  obtain ⟨ek, hek, hekk⟩ := hT.both.ok.has 0 1 2 0 k (Nat.zero_le _) (by rw [hT.both.cnt]; omega)
  -- all earlier steps of a name are of the first one's kind
  have hsame : ∀ x, 0 ≤ x → ∀ i, i < k → R.nm i = x → R.kd i = R.kd (firstOf R.nm x k) := by
    intro x hx i
    induction i using Nat.strongRecOn with
    | _ i ih =>
      intro hi he
      rcases (hS i hi).2.1 with h | ⟨_, _, h3⟩
      · omega
      · by_cases hlt : firstOf R.nm x i < i
        · rw [he] at h3
          rw [← h3 hlt]
          exact congrArg R.kd (firstOf_more hlt (Nat.le_of_lt hi)).symm
        · have hfi : firstOf R.nm x k = i := by
            obtain ⟨_, b⟩ := (firstOf_spec R.nm x i).2 hlt
            by_cases hk2 : firstOf R.nm x k < k
            · obtain ⟨c1, c2⟩ := (firstOf_spec R.nm x k).1 hk2
              by_cases d : firstOf R.nm x k < i
              · exact absurd c1 (b _ d)
              · by_cases d2 : i < firstOf R.nm x k
                · exact absurd he (c2 _ d2)
                · omega
            · exact absurd he (((firstOf_spec R.nm x k).2 hk2).2 i hi)
          rw [hfi]
  have hname : (R.nm k = -1 ∨ (T.H.ir false 0 k = false ∧ T.H.svM R.nm (R.nm k) false 0 k = false ∧ (firstOf R.nm (R.nm k) k < k → R.kd (firstOf R.nm (R.nm k) k) = R.kd k))) ↔
      (R.nm k = -1 ∨ (T.H.ir false 0 k = false ∧ (¬ ∃ i, i < T.H.cnt ∧ R.nm i = R.nm k ∧ ∃ d ∈ (T.P.pl 0 1 2 0).1, d.st = (i : Int) ∧ ∃ e ∈ (T.P.pl 0 1 2 0).1, e.st = (k : Int) ∧ Reach allOk (T.P.pl 0 1 2 0).1 d.to e.fr) ∧ ∀ i, i < k → R.nm i = R.nm k → R.kd i = R.kd k)) := by
    by_cases hm : R.nm k = -1
    · simp [hm]
    have hpos : 0 ≤ R.nm k := by rcases hnm k with h | h; · exact absurd h hm
                                 · exact h
    refine or_congr Iff.rfl (and_congr_right fun hr => and_congr ?_ ?_)
    · rw [← Bool.not_eq_true, hT.svM R.nm (R.nm k) false 0 k (Nat.zero_le _) (by omega) hr]
      refine not_congr ?_
      constructor
      · rintro (h | ⟨i, _, h2, h3, h4, h5⟩)
        · cases h
        · obtain ⟨d, hd, hdi⟩ := hT.both.ok.has 0 1 2 0 i (Nat.zero_le _) (by rw [hT.both.cnt]; omega)
          exact ⟨i, by omega, h4, d, hd, hdi, ek, hek, hekk, (maybe_iff hT i k (by omega) hkn hr d ek hd hek hdi hekk).2 h5⟩
      · rintro ⟨i, h1, h2, d, hd, hdi, e, he, hee, h3⟩
        have hah := (maybe_iff hT i k h1 hkn hr d e hd he hdi hee).1 h3
        have hik := hT.lt 0 i k (Nat.zero_le _) (by omega) (Nat.zero_le _) (by omega) hr hah
        refine Or.inr ⟨i, Nat.zero_le _, by omega, ?_, h2, hah⟩
        cases e2 : T.H.ir false 0 i with
        | false => rfl
        | true => exact absurd h2 (hfree i hik e2 _ hpos)
    · constructor
      · intro h i hi he
        have hlt : firstOf R.nm (R.nm k) k < k := by
          by_cases c : firstOf R.nm (R.nm k) k < k
          · exact c
          · exact absurd he (((firstOf_spec R.nm (R.nm k) k).2 c).2 i hi)
        rw [← h hlt]
        exact hsame _ hpos i hi he
      · intro h hlt
        exact h _ hlt ((firstOf_spec R.nm (R.nm k) k).1 hlt).1
  unfold rightS rightG
  refine and_congr_right fun hkk => and_congr hname ?_
  refine forall_congr' fun t => imp_congr_right fun _ => ?_
  refine or_congr Iff.rfl (or_congr (and_congr_right fun _ => hfg _ _ hkk) (and_congr_right fun h2 => ?_))
  have hal : T.H.svS R.nm (t.1 - 2) false 0 k = true ↔ ¬ ∃ e ∈ (T.P.pl 0 1 2 0).1, e.st = (k : Int) ∧ Reach (fun i => decide (¬ R.nm i = t.1 - 2)) (T.P.pl 0 1 2 0).1 0 e.fr := by
    constructor
    · rintro h ⟨e, he, hee, hr⟩
      rw [(always_iff hT R.nm (t.1 - 2) k hkn (fun i hi hr => hfree i hi hr _ (by omega)) e he hee).1 hr] at h
      cases h
    · intro h
      cases e2 : T.H.svS R.nm (t.1 - 2) false 0 k with
      | true => rfl
      | false => exact absurd ⟨ek, hek, hekk, (always_iff hT R.nm (t.1 - 2) k hkn (fun i hi hr => hfree i hi hr _ (by omega)) ek hek hekk).2 e2⟩ h
  rw [hal]
  refine and_congr_right fun hh => ?_
  -- what is held on every way is held by a step ahead
  have hlt : firstOf R.nm (t.1 - 2) k < k := by
    by_cases c : firstOf R.nm (t.1 - 2) k < k
    · exact c
    · have := hT.both.svF R.nm (t.1 - 2) 0 k (Nat.zero_le _) (by omega) (fun i _ hi => ((firstOf_spec R.nm (t.1 - 2) k).2 c).2 i hi)
      rw [hal.2 hh] at this
      cases this
  have hm := firstOf_more hlt (Nat.le_of_lt hkn)
  rw [hm]
  constructor
  · rintro ⟨_, h⟩
    exact ⟨by omega, (hfg _ _ (hkd _ hlt)).1 h⟩
  · rintro ⟨_, h⟩
    exact ⟨hlt, (hfg _ _ (hkd _ hlt)).2 h⟩
end Go.Proofs.YtcboiapggnmpfaaGreat
