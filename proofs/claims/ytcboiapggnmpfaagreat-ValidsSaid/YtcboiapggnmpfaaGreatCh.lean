/- Walks: spotterref: the cutter, whole: by the depth of brackets. -/
import Derived.Test.YtcboiapggnmpfaaGreatCf
namespace Go.Proofs.YtcboiapggnmpfaaGreat
open Go.RowKit
set_option linter.unusedSimpArgs false
set_option linter.unusedVariables false

set_option maxRecDepth 100000 in
set_option maxHeartbeats 1000000 in
theorem paren_any (P : CuP) (B : Nat) (L : List Tok) (root win : Int) (lo hi p : Nat) (np : Nat → Nat → List Pt) (ns : List St) (hp : L[lo]? = some (40, p)) (hA : CutOk 143 P B L root win (lo + 1) hi np ns) (hh : hi ≤ L.length) :
    CutOk 227 P B L root win lo (hi + 1) np ns := by
  intro ps ss pv sv w h hN hM
  have c0 := h.cu.c0
  have hlen := h.cu.len
  have ce := h.cu.bs _ _ hp
  have hlo := (List.getElem?_eq_some_iff.1 hp).1
  have HC : Hid (∀ {z1 z2 : Int}, z1 = ((lo + 1 : Nat) : Int) → z2 = hi → Calls Tryz.prog 143 #[.pointer (some ⟨P.C, 0, none⟩), .int .i64 z1, .int .i64 z2] w (CutPost P B L root win ps ss (np ps.length ss.length) ns w)) := fun e1 e2 => hA.at e1 e2 h hN hM
  clear h hN hM hp
  obtain ⟨C, gs, cs, ga, ca, T⟩ := P
  simp only at c0 ce
  go_enter Tryz.func227, Tryz.ntmps227
  go_wp2_with fail
  refine (HC.out (by push_cast; rfl) (by push_cast; omega)).mono ?_
  rintro e w1 ⟨rfl, pv1, sv1, ss1, hss, t1, k1⟩
  have KK : Hid (CutPost ⟨C, gs, cs, ga, ca, T⟩ B L root win ps ss (np ps.length ss.length) ns w (.returned (.int .i64 ((ps.length : Int) + (np ps.length ss.length).length - 1))) w1) := ⟨rfl, pv1, sv1, ss1, hss, t1, k1⟩
  clear hss t1 k1
  go_wp2
  go_ret
  exact KK.out
/-- What may stand behind a step. -/
def Nxt (x : List Tok) : Prop := x = [] ∨ ∃ c r, x = c :: r ∧ isNameB c.1 = false ∧ ¬ c.1 = 91
theorem sub_get {L : List Tok} {lo : Nat} {u x : List Tok} {c : Tok} (h : Sub L lo (u ++ c :: x)) : L[lo + u.length]? = some c := (h.right rfl).head
theorem name_no {c : Int} (h : KH c) : isNameB c = false ∧ ¬ c = 91 := by
  unfold KH at h
  refine ⟨?_, by omega⟩
  rw [Bool.eq_false_iff]
  intro e
  rw [isName_iff] at e
  omega
theorem bdy_step {L : List Tok} {lo hi : Nat} {s : St} {v x : List Tok} (hy : ySt s v) (hx : Nxt x) (hS : Sub L lo (v ++ x)) (hhi : lo + (v ++ x).length = hi) : Bdy L lo hi v.length := by
  obtain ⟨c, a, b, e, hc, _, ha, hb⟩ := hy
  subst e
  rw [isKind_iff] at hc
  have h0 : L[lo]? = some (c, s.pos) := by have := sub_get (u := []) (by simpa using hS); simpa using this
  refine ⟨c, s.pos, h0, Or.inr ⟨by simp; omega, ?_⟩⟩
  simp only [List.cons_append, List.append_assoc, List.length_cons, List.length_append] at hS hhi
  have hS1 : Sub L (lo + 1) (a ++ (b ++ x)) := hS.tail
  rcases ha with ⟨_, ea⟩ | ⟨d, q, hd, ea, _⟩
  · subst ea
    refine ⟨0, ?_, ?_⟩
    · rcases hb with ⟨_, eb⟩ | ⟨q, v', eb, _⟩
      · subst eb
        rcases hx with ex | ⟨d, r, ex, h1, h2⟩
        · subst ex; simp at hhi; exact Or.inr (Or.inl ⟨rfl, by omega⟩)
        · subst ex
          obtain ⟨d, q⟩ := d
          exact Or.inr (Or.inr ⟨rfl, by simp at hhi; omega, d, q, hS1.head, h1⟩)
      · subst eb
        exact Or.inr (Or.inr ⟨rfl, by simp at hhi; omega, 91, q, hS1.head, by decide⟩)
    · rcases hb with ⟨_, eb⟩ | ⟨q, v', eb, ht⟩
      · subst eb
        rcases hx with ex | ⟨d, r, ex, h1, h2⟩
        · subst ex; simp at hhi; exact Or.inr (Or.inl ⟨by omega, by simp⟩)
        · subst ex
          obtain ⟨d, q⟩ := d
          exact Or.inr (Or.inr ⟨by simp at hhi; omega, by simp, d, q, hS1.head, by simpa using h2⟩)
      · subst eb
        obtain ⟨v2, p2, e2, hbal, _⟩ := yTsts_bal _ _ ht
        subst e2
        have hdr := hS1.drop
        refine Or.inl ⟨by simp at hhi; omega, ⟨q, hS1.head⟩, ?_⟩
        have : sh 0 (L.drop (lo + 1)) = v2.length + 2 := by
          rw [hdr]
          simp only [List.nil_append, List.cons_append, List.append_assoc]
          exact sh_bracket (by decide : brk 91 = 1) (by decide : brk 93 = -1) hbal
        simp only [Nat.add_zero]
        rw [this]; simp; omega
  · subst ea
    have hS2 : Sub L (lo + 1 + 1) (b ++ x) := hS1.tail
    refine ⟨1, Or.inl ⟨rfl, by simp at hhi; omega, d, q, hS1.head, hd⟩, ?_⟩
    rcases hb with ⟨_, eb⟩ | ⟨q, v', eb, ht⟩
    · subst eb
      rcases hx with ex | ⟨d, r, ex, h1, h2⟩
      · subst ex; simp at hhi; exact Or.inr (Or.inl ⟨by omega, by simp⟩)
      · subst ex
        obtain ⟨d, q⟩ := d
        exact Or.inr (Or.inr ⟨by simp at hhi; omega, by simp, d, q, hS2.head, by simpa using h2⟩)
    · subst eb
      obtain ⟨v2, p2, e2, hbal, _⟩ := yTsts_bal _ _ ht
      subst e2
      have hdr := hS2.drop
      refine Or.inl ⟨by simp at hhi; omega, ⟨q, hS2.head⟩, ?_⟩
      have : sh 0 (L.drop (lo + 1 + 1)) = v2.length + 2 := by
        rw [hdr]
        simp only [List.cons_append, List.append_assoc]
        exact sh_bracket (by decide : brk 91 = 1) (by decide : brk 93 = -1) hbal
      rw [this]; simp; omega
theorem bdy_paren {L : List Tok} {lo hi : Nat} {v x : List Tok} {p q : Nat} (hv : Bal v) (hS : Sub L lo ((40, p) :: (v ++ [(41, q)]) ++ x)) : Bdy L lo hi ((40, p) :: (v ++ [(41, q)])).length := by
  refine ⟨40, p, hS.left.head, Or.inl ⟨rfl, ?_⟩⟩
  rw [hS.drop]
  simp only [List.cons_append, List.append_assoc, List.nil_append]
  rw [sh_bracket (by decide : brk 40 = 1) (by decide : brk 41 = -1) hv]
  simp
theorem rp_of {L : List Tok} {hi b : Nat} {q : Rep} {r x : List Tok} (hy : yRepS q r) (hx : x = [] ∨ ∃ c y, x = c :: y ∧ KH c.1) (hS : Sub L b (r ++ x)) (hhi : b + (r ++ x).length = hi) : Rp L hi b q r.length := by
  rcases hy with ⟨e1, e⟩ | ⟨p, e, e1⟩ | ⟨p, e, e1⟩ | ⟨p, e, e1⟩ | ⟨a, c, p0, p1, p2, p3, e, ha, hc, _, _, e1⟩
  · subst e
    refine Or.inl ⟨e1, rfl, ?_⟩
    rcases hx with ex | ⟨c, y, ex, hk⟩
    · subst ex; simp at hhi; exact Or.inl hhi
    · subst ex
      obtain ⟨c, p⟩ := c
      unfold KH at hk
      simp only at hk
      exact Or.inr ⟨by simp at hhi; omega, c, p, hS.head, by simp; omega, by simp; omega, by simp; omega, by simp; omega⟩
  · subst e; exact Or.inr (Or.inl ⟨by simp at hhi; omega, rfl, ⟨p, hS.head⟩, e1⟩)
  · subst e; exact Or.inr (Or.inr (Or.inl ⟨by simp at hhi; omega, rfl, ⟨p, hS.head⟩, e1⟩))
  · subst e; exact Or.inr (Or.inr (Or.inr (Or.inl ⟨by simp at hhi; omega, rfl, ⟨p, hS.head⟩, e1⟩)))
  · subst e
    rw [isDigit_iff] at ha hc
    exact Or.inr (Or.inr (Or.inr (Or.inr ⟨by simp at hhi; omega, rfl, p0, a, p1, c, p2, hS.head, hS.tail.head, hS.tail.tail.head, by omega, by omega, by omega, by omega, e1⟩)))
theorem nxt_of {q : Rep} {r x : List Tok} (hy : yRepS q r) (hx : x = [] ∨ ∃ c y, x = c :: y ∧ KH c.1) : Nxt (r ++ x) := by
  rcases hy with ⟨e1, e⟩ | ⟨p, e, e1⟩ | ⟨p, e, e1⟩ | ⟨p, e, e1⟩ | ⟨a, c, p0, p1, p2, p3, e, ha, hc, _, _, e1⟩
  · subst e
    rcases hx with ex | ⟨c, y, ex, hk⟩
    · subst ex; exact Or.inl rfl
    · subst ex; exact Or.inr ⟨c, y, rfl, (name_no hk).1, (name_no hk).2⟩
  · subst e; exact Or.inr ⟨_, _, rfl, (by decide : isNameB 42 = false), by simp⟩
  · subst e; exact Or.inr ⟨_, _, rfl, (by decide : isNameB 43 = false), by simp⟩
  · subst e; exact Or.inr ⟨_, _, rfl, (by decide : isNameB 63 = false), by simp⟩
  · subst e; exact Or.inr ⟨_, _, rfl, (by decide : isNameB 123 = false), by simp⟩
section
variable (P : CuP) (B : Nat) (L : List Tok) (root win : Int)
def AtomOk (n : Nat) : Prop := ∀ (a : Atom n) (u : List Tok) (lo : Nat), yAtom n a u → Sub L lo u → CutOk 227 P B L root win lo (lo + u.length) (atomP n a) (atomS n a)
def AtomBd (n : Nat) : Prop := ∀ (a : Atom n) (v x : List Tok) (lo hi : Nat), yAtom n a v → Nxt x → Sub L lo (v ++ x) → lo + (v ++ x).length = hi → Bdy L lo hi v.length
theorem atomBd (n : Nat) : AtomBd L n := by
  intro a v x lo hi hy hx hS hhi
  cases n with
  | zero => exact bdy_step hy hx hS hhi
  | succ n =>
    cases a with
    | inl s => exact bdy_step hy hx hS hhi
    | inr t =>
      obtain ⟨p, v', q, e, h⟩ := hy
      subst e
      exact bdy_paren (yAlt_bal (yAtom_scan n) h) hS
theorem sub_le {L : List Tok} {lo : Nat} {u : List Tok} (h : Sub L lo u) (hu : 0 < u.length) : lo + u.length ≤ L.length := h.le hu
theorem row_ok {n : Nat} (HA : AtomOk P B L root win n) : ∀ (xs : List (Atom n × Rep)) (x : Atom n × Rep) (u : List Tok) (lo : Nat), yReps (yAtom n) (x :: xs) u → Sub L lo u →
    CutOk 186 P B L root win lo (lo + u.length) (fun k m => seqP (atomP n) (atomS n) x xs k m) (seqS (atomS n) x xs) := by
  intro xs
  induction xs with
  | nil =>
    intro x u lo hy hS
    obtain ⟨v, r, e, ⟨v1, r1, e1, h1, h3⟩, h2⟩ := hy
    simp only [yReps] at h2
    subst h2; subst e1
    simp at e; subst e
    obtain ⟨_, c0, y0, hv1, _⟩ := atomB n _ _ h1
    have hpos : 0 < (v1 ++ r1).length := by rw [hv1]; simp
    refine row_any P B L root win lo _ v1.length (lo + v1.length) r1.length rfl x.2 (atomP n x.1) _ (atomS n x.1) _ (HA x.1 v1 lo h1 hS.left) (atomBd L n x.1 v1 r1 lo _ h1 (by have := nxt_of (x := []) h3 (Or.inl rfl); simpa using this) hS rfl) (rp_of (x := []) h3 (Or.inl rfl) (by simpa using hS.right rfl) (by simp; omega)) (sub_le hS hpos) (Or.inl ⟨by simp; omega, ?_, rfl⟩)
    intro k m
    exact repP_rep1 (atomP n) x k m
  | cons y ys ih =>
    intro x u lo hy hS
    obtain ⟨v, r, e, ⟨v1, r1, e1, h1, h3⟩, h2⟩ := hy
    subst e1; subst e
    obtain ⟨_, c0, y0, hv1, _⟩ := atomB n _ _ h1
    have hpos : 0 < (v1 ++ r1 ++ r).length := by rw [hv1]; simp
    have hhd : r = [] ∨ ∃ c y, r = c :: y ∧ KH c.1 := by
      rcases yReps_head (atomB n) _ _ h2 with ⟨e, _⟩ | h
      · cases e
      · exact Or.inr h
    have hrp : 0 < r.length := by
      rcases yReps_head (atomB n) _ _ h2 with ⟨e, _⟩ | ⟨c, y, e, _⟩
      · cases e
      · rw [e]; simp
    have hS' : Sub L lo (v1 ++ (r1 ++ r)) := by rw [← List.append_assoc]; exact hS
    have hb := ih y r (lo + v1.length + r1.length) h2 (hS.right (by simp; omega))
    have e : lo + v1.length + r1.length + r.length = lo + (v1 ++ r1 ++ r).length := by simp; omega
    rw [e] at hb
    refine row_any P B L root win lo _ v1.length (lo + v1.length) r1.length rfl x.2 (atomP n x.1) _ (atomS n x.1) _ (HA x.1 v1 lo h1 hS'.left) (atomBd L n x.1 v1 (r1 ++ r) lo _ h1 (nxt_of h3 hhd) hS' (by simp)) (rp_of h3 hhd (hS'.right rfl) (by simp; omega)) (sub_le hS hpos) (Or.inr ⟨by simp; omega, _, _, hb, rfl, ?_⟩)
    intro k m
    simp only [seqP, repP_rep1]
theorem whole_ok {n : Nat} (HA : AtomOk P B L root win n) : ∀ (ts : List (SeqOf (Atom n))) (s : SeqOf (Atom n)) (v r : List Tok) (lo : Nat), ySeq (yAtom n) s v → yAlts (yAtom n) ts r → Sub L lo (v ++ r) →
    CutOk 143 P B L root win lo (lo + (v ++ r).length) (fun k m => altP (atomP n) (atomS n) s ts k m) (altS (atomS n) s ts) := by
  intro ts
  induction ts with
  | nil =>
    intro s v r lo h1 h2 hS
    simp only [yAlts] at h2
    subst h2
    simp only [List.append_nil] at hS ⊢
    have hpos : 0 < v.length := by
      rcases yReps_head (atomB n) _ _ h1 with ⟨e, _⟩ | ⟨c, y, e, _⟩
      · cases e
      · rw [e]; simp
    exact wholeC_any P B L root win lo _ (lo + v.length) v rfl (yReps_scan (yAtom_scan n) _ _ h1).1 hS (sub_le hS hpos) _ _ _ _ (row_ok P B L root win HA s.2 s.1 v lo h1 hS) (Or.inl ⟨rfl, fun _ _ => rfl, rfl⟩)
  | cons t ts ih =>
    intro s v r lo h1 h2 hS
    obtain ⟨p, v', r', e, h3, h4⟩ := h2
    subst e
    have hpos : 0 < (v ++ (124, p) :: (v' ++ r')).length := by simp; omega
    have hb := ih t v' r' (lo + v.length + 1) h3 h4 (hS.right rfl).tail
    have e : lo + v.length + 1 + (v' ++ r').length = lo + (v ++ (124, p) :: (v' ++ r')).length := by simp; omega
    rw [e] at hb
    refine wholeC_any P B L root win lo _ (lo + v.length) v rfl (yReps_scan (yAtom_scan n) _ _ h1).1 hS.left (sub_le hS hpos) _ _ _ _ (row_ok P B L root win HA s.2 s.1 v lo h1 hS.left) (Or.inr ⟨by simp, ⟨p, sub_get hS⟩, _, _, hb, rfl, ?_⟩)
    intro k m
    simp only [altP]
/-- What is asked of a step's cut. -/
def StepOk : Prop := ∀ (s : St) (u : List Tok) (lo : Nat), ySt s u → Sub L lo u → CutOk 227 P B L root win lo (lo + u.length) (fun _ m => [⟨0, 0, 0, 0, 0, m⟩]) [s]
theorem atom_ok (hS0 : StepOk P B L root win) : ∀ n : Nat, AtomOk P B L root win n := by
  intro n
  induction n with
  | zero => intro a u lo hy hS; exact hS0 a u lo hy hS
  | succ n ih =>
    intro a u lo hy hS
    cases a with
    | inl s => exact hS0 s u lo hy hS
    | inr t =>
      obtain ⟨p, v, q, e, v1, r1, e1, h1, h2⟩ := hy
      subst e; subst e1
      have hw := whole_ok P B L root win ih t.2 t.1 v1 r1 (lo + 1) h1 h2 hS.tail.left
      have hle : lo + 1 + (v1 ++ r1).length + 1 ≤ L.length := by have := sub_le hS (by simp); simp at this ⊢; omega
      have e : lo + ((40, p) :: (v1 ++ r1 ++ [(41, q)])).length = lo + 1 + (v1 ++ r1).length + 1 := by simp; omega
      rw [e]
      exact paren_any P B L root win lo (lo + 1 + (v1 ++ r1).length) p _ _ hS.head hw (by omega)
end
end Go.Proofs.YtcboiapggnmpfaaGreat
