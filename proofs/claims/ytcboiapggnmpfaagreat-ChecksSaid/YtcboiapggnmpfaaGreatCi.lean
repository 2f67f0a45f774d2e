/- Walks: spotterref: Read: the bytes without blanks. -/
import Derived.Test.YtcboiapggnmpfaaGreatXb
import Derived.Test.YtcboiapggnmpfaaGreatQi
import Derived.Test.YtcboiapggnmpfaaGreatQc
import Derived.Test.YtcboiapggnmpfaaGreatYc
namespace Go.Proofs.YtcboiapggnmpfaaGreat
open Go.RowKit
set_option linter.unusedSimpArgs false
set_option linter.unusedVariables false

theorem Tryz.info5 : (Tryz.prog.info? 5).map (fun i => (i.zero, i.size, i.bytes)) = some (some (.int .u8 0), 1, 1) := by kernel_rfl
/-- The cutter while its bytes are gathered: L so far; its rows lie from B on. -/
structure CB (w : World) (C T B : Nat) (sv av : Value) (L : List Tok) : Prop where
  c0 : w.cell? ⟨C, 0, none⟩ = some sv
  c1 : w.cell? ⟨C, 1, none⟩ = some av
  c2 : w.cell? ⟨C, 2, none⟩ = some (.pointer (some ⟨T, 0, none⟩))
  fz : ∀ o, w.frozen? ⟨C, o, none⟩ = false
  so : w.ownsRow B 5 1 sv L.length (L.map (fun x => .int .u8 x.1))
  ao : w.ownsRow B 3 1 av L.length (L.map (fun x => .int .i64 x.2))
  tr : Tr w T (.slice none 0 0) (.slice none 0 0) 0 (-1)
  lt : C < w.heap.size
  hC : C < B
  hT : T < B
  ne : ¬ C = T
theorem CB.nw {w w' : World} {C T B : Nat} {sv av : Value} {L : List Tok} (h : CB w C T B sv av L) (k : Nw w w') : CB w' C T B sv av L :=
  ⟨(k.cell (p := ⟨C, 0, none⟩) h.lt (fun h => h)).trans h.c0, (k.cell (p := ⟨C, 1, none⟩) h.lt (fun h => h)).trans h.c1, (k.cell (p := ⟨C, 2, none⟩) h.lt (fun h => h)).trans h.c2, fun o => (k.frozen (p := ⟨C, o, none⟩) h.lt (fun h => h)).trans (h.fz o), owns_kp h.so k (fun _ _ h => h), owns_kp h.ao k (fun _ _ h => h), h.tr.sm (k.sm h.tr.lt (fun h => h)), Nat.lt_of_lt_of_le h.lt k.size, h.hC, h.hT, h.ne⟩
theorem toks_step {b : List Int} {i : Nat} {c : Int} {r : List Int} (h : b.drop i = c :: r) : toks i (b.drop i) = if c = 32 then toks (i + 1) (b.drop (i + 1)) else (c, i) :: toks (i + 1) (b.drop (i + 1)) := by
  have e : r = b.drop (i + 1) := by
    have := congrArg List.tail h
    simpa using this.symm
  rw [h]; simp only [toks]; rw [e]
theorem toksL : ∀ (b : List Int) (i : Nat), (toks i b).length ≤ b.length := by
  intro b
  induction b with
  | nil => intro i; simp [toks]
  | cons c r ih =>
    intro i
    have := ih (i + 1)
    simp only [toks]
    split <;> simp <;> omega
theorem far_cellsR {wr w1 : World} {ob : Obj} {row : Option Nat} {T : Nat} (hgrow : ((wr.alloc ob).drew).grownBy w1 row) (hT : T < wr.heap.size) (hn : ¬ some T = row) : (∀ o, w1.cell? ⟨T, o, none⟩ = wr.cell? ⟨T, o, none⟩) ∧ (∀ o, w1.frozen? ⟨T, o, none⟩ = wr.frozen? ⟨T, o, none⟩) :=
  ⟨fun o => (hgrow.cell_far _ (by simp; omega) hn).trans (by simp [go_sem, hT, World.cell?_alloc_past]), fun o => (hgrow.frozen_far _ (by simp; omega) hn).trans (by simp [go_sem, hT, World.frozen?_alloc_past])⟩
/-- Behind an append to the bytes. -/
theorem CB.byte {w w1 : World} {C T B : Nat} {sv av v : Value} {L : List Tok} {c : Int} {ob : Obj} (h : CB w C T B sv av L) (hgrow : ((w.alloc ob).drew).grownBy w1 sv.ownBlock) (ho : w1.ownsRow B 5 1 v (L.length + 1) (L.map (fun x => .int .u8 x.1) ++ [.int .u8 c])) :
    Kp (fun b => b = C ∨ sv.ownBlock = some b) w (w1.setCell ⟨C, 0, none⟩ v) ∧ (w1.setCell ⟨C, 0, none⟩ v).cell? ⟨C, 0, none⟩ = some v ∧ (w1.setCell ⟨C, 0, none⟩ v).cell? ⟨C, 1, none⟩ = some av ∧ (w1.setCell ⟨C, 0, none⟩ v).cell? ⟨C, 2, none⟩ = some (.pointer (some ⟨T, 0, none⟩)) ∧ (∀ o, (w1.setCell ⟨C, 0, none⟩ v).frozen? ⟨C, o, none⟩ = false) ∧ (w1.setCell ⟨C, 0, none⟩ v).ownsRow B 5 1 v (L.length + 1) (L.map (fun x => .int .u8 x.1) ++ [.int .u8 c]) ∧ (w1.setCell ⟨C, 0, none⟩ v).ownsRow B 3 1 av L.length (L.map (fun x => .int .i64 x.2)) ∧ Tr (w1.setCell ⟨C, 0, none⟩ v) T (.slice none 0 0) (.slice none 0 0) 0 (-1) := by
  have hge : ∀ b, sv.ownBlock = some b → B ≤ b ∧ b < w.heap.size := fun b hb => h.so.lt b hb
  have hCn : ¬ some C = sv.ownBlock := by intro e; have := hge C e.symm; have := h.hC; omega
  have hTn : ¬ some T = sv.ownBlock := by intro e; have := hge T e.symm; have := h.hT; omega
  have K1 : Kp (fun b => b = C ∨ sv.ownBlock = some b) w w1 := (((Kp.refl _ w).alloc _).drew).grown hgrow (fun b hb => Or.inr (Or.inr hb))
  have K2 : Kp (fun b => b = C ∨ sv.ownBlock = some b) w (w1.setCell ⟨C, 0, none⟩ v) := K1.setCell (p := ⟨C, 0, none⟩) (Or.inr (Or.inl rfl)) _
  have hl := h.lt
  have kC : ∀ o, w1.cell? ⟨C, o, none⟩ = w.cell? ⟨C, o, none⟩ := fun o => (hgrow.cell_far _ (by simp; omega) hCn).trans (by simp [go_sem, hl, World.cell?_alloc_past])
  have kz : ∀ o, w1.frozen? ⟨C, o, none⟩ = w.frozen? ⟨C, o, none⟩ := fun o => (hgrow.frozen_far _ (by simp; omega) hCn).trans (by simp [go_sem, hl, World.frozen?_alloc_past])
  have a0 := (kC 0).trans h.c0
  have a1 := (kC 1).trans h.c1
  have a2 := (kC 2).trans h.c2
  have az : ∀ o, w1.frozen? ⟨C, o, none⟩ = false := fun o => (kz o).trans (h.fz o)
  refine ⟨K2, by simp [go_sem, a0], by simp [go_sem, a1], by simp [go_sem, a2], fun o => by simp [go_sem, az], ownsRow_setCell_below ho (a := ⟨C, 0, none⟩) h.hC _, owns_apart h.ao h.so (by decide) h.hC K2, h.tr.sm (K2.sm h.tr.lt ?_)⟩
  rintro (e | e)
  · exact h.ne e.symm
  · exact hTn e.symm
/-- Behind an append to the places. -/
theorem CB.place {W2 w3 : World} {C T B : Nat} {sv av v : Value} {L : List Tok} {c : Int} {i : Nat} {ob : Obj} (c0 : W2.cell? ⟨C, 0, none⟩ = some sv) (c1 : W2.cell? ⟨C, 1, none⟩ = some av) (c2 : W2.cell? ⟨C, 2, none⟩ = some (.pointer (some ⟨T, 0, none⟩))) (fz : ∀ o, W2.frozen? ⟨C, o, none⟩ = false)
    (so : W2.ownsRow B 5 1 sv (L.length + 1) (L.map (fun x => .int .u8 x.1) ++ [.int .u8 c])) (ao : W2.ownsRow B 3 1 av L.length (L.map (fun x => .int .i64 x.2))) (tr : Tr W2 T (.slice none 0 0) (.slice none 0 0) 0 (-1)) (hl : C < W2.heap.size) (hC : C < B) (hT : T < B) (ne : ¬ C = T)
    (hgrow : (W2.alloc ob).grownBy w3 av.ownBlock) (ho : w3.ownsRow B 3 1 v (L.length + 1) (L.map (fun x => .int .i64 x.2) ++ [.int .i64 i])) :
    CB (w3.setCell ⟨C, 1, none⟩ v) C T B sv v (L ++ [(c, i)]) ∧ Kp (fun b => b = C ∨ av.ownBlock = some b) W2 (w3.setCell ⟨C, 1, none⟩ v) := by
  have hge : ∀ b, av.ownBlock = some b → B ≤ b ∧ b < W2.heap.size := fun b hb => ao.lt b hb
  have hCn : ¬ some C = av.ownBlock := by intro e; have := hge C e.symm; omega
  have hTn : ¬ some T = av.ownBlock := by intro e; have := hge T e.symm; omega
  have K1 : Kp (fun b => b = C ∨ av.ownBlock = some b) W2 w3 := ((Kp.refl _ W2).alloc _).grown hgrow (fun b hb => Or.inr (Or.inr hb))
  have K2 : Kp (fun b => b = C ∨ av.ownBlock = some b) W2 (w3.setCell ⟨C, 1, none⟩ v) := K1.setCell (p := ⟨C, 1, none⟩) (Or.inr (Or.inl rfl)) _
  have kC : ∀ o, w3.cell? ⟨C, o, none⟩ = W2.cell? ⟨C, o, none⟩ := fun o => (hgrow.cell_far _ (by simp; omega) hCn).trans (by simp [go_sem, hl, World.cell?_alloc_past])
  have kz : ∀ o, w3.frozen? ⟨C, o, none⟩ = W2.frozen? ⟨C, o, none⟩ := fun o => (hgrow.frozen_far _ (by simp; omega) hCn).trans (by simp [go_sem, hl, World.frozen?_alloc_past])
  have a0 := (kC 0).trans c0
  have a1 := (kC 1).trans c1
  have a2 := (kC 2).trans c2
  have az : ∀ o, w3.frozen? ⟨C, o, none⟩ = false := fun o => (kz o).trans (fz o)
  have e1 : (L ++ [(c, i)]).length = L.length + 1 := by simp
  refine ⟨⟨by simp [go_sem, a0], by simp [go_sem, a1], by simp [go_sem, a2], fun o => by simp [go_sem, az], ?_, ?_, tr.sm (K2.sm tr.lt ?_), Nat.lt_of_lt_of_le hl K2.size, hC, hT, ne⟩, K2⟩
  · rw [e1, List.map_append]
    exact owns_apart so ao (by decide) hC K2
  · rw [e1, List.map_append]
    exact ownsRow_setCell_below ho (a := ⟨C, 1, none⟩) hC _
  · rintro (e | e)
    · exact ne e.symm
    · exact hTn e.symm
theorem ptsC_get : ∀ (l : List Pt) (i k : Nat) (x : Pt), l[i]? = some x → k < 6 → (ptsC l)[i * 6 + k]? = (ptC x)[k]? := by
  intro l
  induction l with
  | nil => intro i k x h; simp at h
  | cons y r ih =>
    intro i k x h hk
    have e : ptsC (y :: r) = ptC y ++ ptsC r := by simp [ptsC]
    have hl : (ptC y).length = 6 := rfl
    rw [e]
    cases i with
    | zero => simp at h; subst h; rw [List.getElem?_append_left (by omega)]; simp
    | succ i =>
      simp at h
      rw [List.getElem?_append_right (by omega), hl]
      have : (i + 1) * 6 + k - 6 = i * 6 + k := by omega
      rw [this]; exact ih i k x h hk
theorem sesC_get : ∀ (l : List (St × Value)) (i k : Nat) (x : St × Value), l[i]? = some x → k < 4 → (sesC l)[i * 4 + k]? = (seC x)[k]? := by
  intro l
  induction l with
  | nil => intro i k x h; simp at h
  | cons y r ih =>
    intro i k x h hk
    have e : sesC (y :: r) = seC y ++ sesC r := by simp [sesC]
    have hl : (seC y).length = 4 := rfl
    rw [e]
    cases i with
    | zero => simp at h; subst h; rw [List.getElem?_append_left (by omega)]; simp
    | succ i =>
      simp at h
      rw [List.getElem?_append_right (by omega), hl]
      have : (i + 1) * 4 + k - 4 = i * 4 + k := by omega
      rw [this]; exact ih i k x h hk
theorem owns_baseI {w : World} {base base' n size : Nat} {e : TypeId} {v : Value} {xs : List Value} (h : w.ownsRow base e size v n xs) (hb : base' ≤ base) : w.ownsRow base' e size v n xs := by
  refine ⟨h.1, ?_⟩
  rcases h.2 with h2 | ⟨g, cap, cur, h2, h3, h4⟩
  · exact Or.inl h2
  · exact Or.inr ⟨g, cap, cur, h2, by omega, h4⟩
/-- The tree that the cutter leaves, with its root set, is one that can be read. -/
theorem TS.tree {w : World} {P : CuP} {B : Nat} {L : List Tok} {pv sv : Value} {root win : Int} {ps : List Pt} {ss : List (St × Value)} (h : TS w P B L pv sv root win ps ss) (hp : 0 < ps.length) (hs : 0 < ss.length) (hp2 : ps.length ≤ 100000) (hs2 : ss.length ≤ 100000) (htl : ∀ x ∈ ss, x.1.tests.length ≤ 1000) (r : Int) :
    ∃ Q : TP, Q.T = P.T ∧ TreeF (w.setCell ⟨P.T, 2, none⟩ (.int .i64 r)) Q ps ss r win := by
  obtain ⟨gp, cp, hpv, _, hgp⟩ := h.parts.form hp
  obtain ⟨gt, ct, hsv, _, hgt⟩ := h.steps.form hs
  have hT := h.hT
  have kk : Kp (fun b => b = P.T) w (w.setCell ⟨P.T, 2, none⟩ (.int .i64 r)) := (Kp.refl (fun b => b = P.T) w).setCell (p := ⟨P.T, 2, none⟩) (Or.inr rfl) _
  have op := ownsRow_setCell_below h.parts (a := ⟨P.T, 2, none⟩) hT (.int .i64 r)
  have os := ownsRow_setCell_below h.steps (a := ⟨P.T, 2, none⟩) hT (.int .i64 r)
  obtain ⟨t0, t1, t2, t3, tz⟩ := h.tr
  subst hpv
  subst hsv
  have hlt := h.tr.lt
  refine ⟨⟨P.T, gp, cp, gt, ct⟩, rfl, ⟨⟨by simp [go_sem, t0], by simp [go_sem, t1], by simp [go_sem, t2], by simp [go_sem, t3], ?_, ?_, Nat.lt_of_lt_of_le hlt kk.size, Nat.lt_of_lt_of_le hgp kk.size, Nat.lt_of_lt_of_le hgt kk.size, hp2, hs2⟩, ?_, htl⟩⟩
  · intro i x hx
    have key : ∀ k, k < 6 → ∀ v, (ptC x)[k]? = some v → (w.setCell ⟨P.T, 2, none⟩ (.int .i64 r)).cell? ⟨gp, i * 6 + k, none⟩ = some v := fun k hk v hv => owns_cell op (i * 6 + k) (by rw [ptsC_get ps i k x hx hk]; exact hv)
    exact ⟨key 0 (by omega) _ rfl, key 1 (by omega) _ rfl, key 2 (by omega) _ rfl, key 3 (by omega) _ rfl, key 4 (by omega) _ rfl, key 5 (by omega) _ rfl⟩
  · intro i x hx
    have key : ∀ k, k < 4 → ∀ v, (seC x)[k]? = some v → (w.setCell ⟨P.T, 2, none⟩ (.int .i64 r)).cell? ⟨gt, i * 4 + k, none⟩ = some v := fun k hk v hv => owns_cell os (i * 4 + k) (by rw [sesC_get ss i k x hx hk]; exact hv)
    exact ⟨key 0 (by omega) _ rfl, key 1 (by omega) _ rfl, key 2 (by omega) _ rfl, key 3 (by omega) _ rfl⟩
  · intro x hx
    exact owns_baseI (ownsRow_setCell_below (h.tests x hx) (a := ⟨P.T, 2, none⟩) hT _) (Nat.zero_le _)
theorem toks_bytes : ∀ (b : List Int) (i : Nat), (∀ c ∈ b, 0 ≤ c ∧ c ≤ 255) → ∀ x ∈ toks i b, 0 ≤ x.1 ∧ x.1 ≤ 255 := by
  intro b
  induction b with
  | nil => intro i _ x hx; simp [toks] at hx
  | cons c r ih =>
    intro i h x hx
    simp only [toks] at hx
    split at hx
    · exact ih (i + 1) (fun d hd => h d (by simp [hd])) x hx
    · rcases List.mem_cons.1 hx with e | e
      · subst e; exact h c (by simp)
      · exact ih (i + 1) (fun d hd => h d (by simp [hd])) x e
theorem bI_range (s : ByteArray) : ∀ c ∈ bI s, 0 ≤ c ∧ c ≤ 255 := by
  intro c hc
  simp only [bI, List.mem_map] at hc
  obtain ⟨b, _, rfl⟩ := hc
  have := b.toNat_lt
  omega
/-- A cutter whose bytes are gathered. -/
theorem CB.cu {w : World} {C T B : Nat} {sv av : Value} {L : List Tok} (h : CB w C T B sv av L) (hL : 0 < L.length) (hl : L.length ≤ 1000) (hr : ∀ x ∈ L, 0 ≤ x.1 ∧ x.1 ≤ 255) : ∃ P : CuP, P.C = C ∧ P.T = T ∧ P.gs < w.heap.size ∧ P.ga < w.heap.size ∧ B ≤ P.gs ∧ B ≤ P.ga ∧ Cu w P L ∧ sv = .slice (some ⟨P.gs, 0, none⟩) L.length P.cs := by
  obtain ⟨gs, cs, hsv, hg1, hgs⟩ := h.so.form hL
  obtain ⟨ga, ca, hav, hg2, hga⟩ := h.ao.form hL
  have so := h.so
  have ao := h.ao
  have c0 := h.c0
  have c1 := h.c1
  subst hsv
  subst hav
  refine ⟨⟨C, gs, cs, ga, ca, T⟩, rfl, rfl, hgs, hga, hg1, hg2, ⟨c0, c1, h.c2, ?_, ?_, hr, hl, h.lt, hgs, hga⟩, rfl⟩
  · intro k x hx
    exact owns_cell so k (by rw [List.getElem?_map, hx]; rfl)
  · intro k x hx
    exact owns_cell ao k (by rw [List.getElem?_map, hx]; rfl)
def ReadPost (w : World) (ps : List Pt) (sts : List St) (win : Int) (e : Ending) (w' : World) : Prop :=
  ∃ (Q : TP) (ss : List (St × Value)), e = .returned (.pointer (some ⟨Q.T, 0, none⟩)) ∧ w.heap.size ≤ Q.T ∧ TreeF w' Q ps ss ((ps.length - 1 : Nat) : Int) win ∧ ss.map (·.1) = sts ∧ Nw w w'
/-- No step of a short text has many tests. -/
def StepsY (sts : List St) (u : List Tok) : Prop := ∀ y ∈ sts, ∃ v, ySt y v ∧ v.length ≤ u.length
theorem StepsY.wide {sts : List St} {u v : List Tok} (h : StepsY sts u) (hv : u.length ≤ v.length) : StepsY sts v := fun y hy => by
  obtain ⟨z, h1, h2⟩ := h y hy
  exact ⟨z, h1, by omega⟩
theorem StepsY.append {a b : List St} {u : List Tok} (h : StepsY a u) (h2 : StepsY b u) : StepsY (a ++ b) u := fun y hy => (List.mem_append.1 hy).elim (h y) (h2 y)
section
variable {α : Type} {ss : α → List St} {ya : α → List Tok → Prop}
theorem seq_steps (H : ∀ a u, ya a u → StepsY (ss a) u) : ∀ (xs : List (α × Rep)) (x : α × Rep) (u : List Tok), yReps ya (x :: xs) u → StepsY (seqS ss x xs) u := by
  intro xs
  induction xs with
  | nil =>
    intro x u h
    obtain ⟨v, r, e, ⟨v1, r1, e1, h1, h3⟩, h2⟩ := h
    exact (H _ _ h1).wide (by rw [e, e1]; simp only [List.length_append]; omega)
  | cons y ys ih =>
    intro x u h
    obtain ⟨v, r, e, ⟨v1, r1, e1, h1, h3⟩, h2⟩ := h
    exact ((H _ _ h1).wide (by rw [e, e1]; simp only [List.length_append]; omega)).append ((ih y r h2).wide (by rw [e]; simp))
theorem alt_steps (H : ∀ a u, ya a u → StepsY (ss a) u) : ∀ (ts : List (SeqOf α)) (s : SeqOf α) (v r : List Tok), ySeq ya s v → yAlts ya ts r → StepsY (altS ss s ts) (v ++ r) := by
  intro ts
  induction ts with
  | nil => intro s v r h1 h2; exact (seq_steps H _ _ _ h1).wide (by simp)
  | cons t ts ih =>
    intro s v r h1 h2
    obtain ⟨p, v', r', e, h3, h4⟩ := h2
    subst e
    exact ((seq_steps H _ _ _ h1).wide (by simp)).append ((ih t v' r' h3 h4).wide (by simp; omega))
end
theorem atom_steps : ∀ (n : Nat) (a : Atom n) (u : List Tok), yAtom n a u → StepsY (atomS n a) u := by
  intro n
  induction n with
  | zero => intro a u h y hy; obtain rfl := List.mem_singleton.1 hy; exact ⟨u, h, Nat.le_refl _⟩
  | succ n ih =>
    intro a u h
    cases a with
    | inl s => intro y hy; obtain rfl := List.mem_singleton.1 hy; exact ⟨u, h, Nat.le_refl _⟩
    | inr t =>
      obtain ⟨p, v, q, e, v1, r1, e1, h1, h2⟩ := h
      subst e; subst e1
      exact (alt_steps ih t.2 t.1 v1 r1 h1 h2).wide (by simp; omega)
theorem yTsts_lenR : ∀ (ts : List Tst) (v : List Tok), yTsts ts v → ts.length ≤ v.length := by
  intro ts
  induction ts with
  | nil => intro v h; simp
  | cons t ts ih =>
    intro v h
    cases ts with
    | nil => obtain ⟨a, p, _, e⟩ := h; subst e; simp
    | cons t2 ts => obtain ⟨a, p, v', _, e, hv⟩ := h; subst e; have := ih v' hv; simp at this ⊢; omega
theorem alt_tests {t : AltOf (Atom 8)} {u : List Tok} (h : yAlt (yAtom 8) t u) (hu : u.length ≤ 1000) : ∀ y ∈ altS (atomS 8) t.1 t.2, y.tests.length ≤ 1000 := by
  obtain ⟨v, r, e, h1, h2⟩ := h
  intro y hy
  obtain ⟨z, ⟨c, a, b, e1, _, _, _, hb⟩, h4⟩ := alt_steps (atom_steps 8) t.2 t.1 v r h1 h2 y hy
  rw [← e] at h4
  rcases hb with ⟨e2, _⟩ | ⟨p, v', e2, hv⟩
  · rw [e2]; simp
  · have := yTsts_lenR _ _ hv
    rw [e1, e2] at h4
    simp at h4; omega
theorem value_at (P : CuP) (L : List Tok) (lo hi : Nat) (u : List Tok) (w : World) (h : Cu w P L) (hd : ∀ d ∈ u, isDigitB d.1 = true) (hu : u.length ≤ 18) (hS : Sub L lo u) (hhi : hi = lo + u.length) (hlo : lo ≤ 1000) {z1 z2 : Int} (e1 : z1 = lo) (e2 : z2 = hi) :
    Calls Tryz.prog 142 #[.pointer (some ⟨P.C, 0, none⟩), .int .i64 z1, .int .i64 z2] w fun e w' => e = .returned (.int .i64 (numV 0 u)) ∧ w' = w := by
  subst e1; subst e2
  exact value_any P L lo hi u w h hd hu hS hhi hlo
theorem Tr.set3 {w : World} {T : Nat} {pv sv : Value} {root win : Int} (h : Tr w T pv sv root win) (v : Int) : Tr (w.setCell ⟨T, 3, none⟩ (.int .i64 v)) T pv sv root v := by
  obtain ⟨c0, c1, c2, c3, fz⟩ := h
  constructor <;> simp [go_sem, c0, c1, c2, c3, fz]
set_option maxRecDepth 100000 in
set_option maxHeartbeats 4000000 in
theorem read_any (hStep : ∀ (P : CuP) (B : Nat) (L : List Tok) (root win : Int), StepOk P B L root win) (s : ByteArray) (hs : s.size ≤ 120) (t : AltOf (Atom 8)) (o : Option Int) (x : List Tok) (hp : pTopOf (pAtom 8) (toks 0 (bI s)) = (some (t, o), x)) (w : World) :
    Calls Tryz.prog 90 #[.string s] w (ReadPost w (altP (atomP 8) (atomS 8) t.1 t.2 0 0) (altS (atomS 8) t.1 t.2) (o.getD (-1))) := by
  obtain ⟨u, hyu, hLu⟩ := pTop_y hp
  have HYU : Hid (yAlt (yAtom 8) t u) := hyu
  have HST : Hid (∀ (P : CuP) (B : Nat) (L : List Tok) (root win : Int), StepOk P B L root win) := hStep
  have HLU : Hid ((o = none ∧ toks 0 (bI s) = u) ∨ ∃ p ds, o = some (numV 0 ds) ∧ toks 0 (bI s) = u ++ (64, p) :: ds ∧ (∀ d ∈ ds, isDigitB d.1 = true) ∧ 1 ≤ ds.length ∧ ds.length ≤ 18) := hLu
  have hlL : (toks 0 (bI s)).length ≤ 120 := by have := toksL (bI s) 0; rw [bI_length] at this; omega
  have hul : u.length ≤ 120 := by
    rcases hLu with ⟨_, e⟩ | ⟨p, ds, _, e, _⟩
    · rw [← e]; exact hlL
    · rw [e] at hlL; simp at hlL; omega
  obtain ⟨hseg, hfit⟩ := top_seg hyu (by omega)
  have HFT : Hid (Fit (altP (atomP 8) (atomS 8) t.1 t.2 0 0) (altS (atomS 8) t.1 t.2) u) := hfit
  have HSG : Hid (0 < (altP (atomP 8) (atomS 8) t.1 t.2 0 0).length) := hseg.1
  have HTL : Hid (∀ y ∈ altS (atomS 8) t.1 t.2, y.tests.length ≤ 1000) := alt_tests hyu (by omega)
  clear hp hyu hStep hLu hseg hfit
  obtain ⟨i5, hi5, hx0, hx1, hx2⟩ := info_parts Tryz.info5
  obtain ⟨i3, hi3, hy0, hy1, hy2⟩ := info_parts Tryz.info3
  go_enter Tryz.func90, Tryz.ntmps90
  go_wp2
  go_loopg [4] s.size (fun m v4 wr => ∃ (i : Nat) (sv av : Value) (L : List Tok), v4 = .int .i64 i ∧ m = s.size - i ∧ i ≤ s.size ∧ L ++ toks i ((bI s).drop i) = toks 0 (bI s) ∧ CB wr (w.heap.size + 1) w.heap.size (w.heap.size + 2) sv av L ∧ Nw w wr)
  case atStart =>
    refine ⟨0, .slice none 0 0, .slice none 0 0, [], rfl, rfl, by omega, rfl, ⟨by simp [go_sem], by simp [go_sem], by simp [go_sem], by simp [go_sem], World.ownsRow_nil _ _ _ _, World.ownsRow_nil _ _ _ _, ?_, by simp, by omega, by omega, by omega⟩, ((Kp.refl _ w).alloc _).alloc _⟩
    constructor <;> simp [go_sem]
  case round =>
    obtain ⟨i, sv, av, L, rfl, hm, hi, hL, hC, hk⟩ := hrel
    have HC : Hid (CB wr (w.heap.size + 1) w.heap.size (w.heap.size + 2) sv av L) := hC
    have HK : Hid (Nw w wr) := hk
    have HL : Hid (L ++ toks i ((bI s).drop i) = toks 0 (bI s)) := hL
    have hlen : L.length ≤ s.size := by
      have h1 := congrArg List.length hL
      have h2 := toksL (bI s) 0
      rw [bI_length] at h2
      simp at h1; omega
    obtain ⟨c0, c1, c2, fz, so, ao, tr, lt, hC1, hT1, ne1⟩ := hC
    clear hk hL
    by_cases hi' : i < s.size
    · have hd := bI_drop s i hi'
      have hst := toks_step hd
      have hbv : (0 : Int) ≤ (s[i].toNat : Int) ∧ (s[i].toNat : Int) ≤ 255 := by have := s[i].toNat_lt; omega
      by_cases h32 : (s[i].toNat : Int) = 32
      · have HL2 : Hid (L ++ toks (i + 1) ((bI s).drop (i + 1)) = toks 0 (bI s)) := by have := HL.out; rw [hst, if_pos h32] at this; exact this
        have g32 : ((s[i].toNat : Int) != 32) = false := by simp [h32]
        clear hst hd tr so ao fz
        go_wp2
        go_roundg (s.size - (i + 1))
        case measure => omega
        case rel => exact ⟨i + 1, sv, av, L, by simp, rfl, by omega, HL2.out, HC.out, HK.out⟩
      · have HL2 : Hid ((L ++ [((s[i].toNat : Int), i)]) ++ toks (i + 1) ((bI s).drop (i + 1)) = toks 0 (bI s)) := by have := HL.out; rw [hst, if_neg h32] at this; show _ = _; rw [List.append_assoc]; exact this
        have g32 : ((s[i].toNat : Int) != 32) = true := by simp [h32]
        have hne5 : ¬ w.heap.size + 1 = wr.heap.size := by omega
        have hne6 : ¬ wr.heap.size = w.heap.size + 1 := by omega
        have hge : Hid (∀ b, sv.ownBlock = some b → w.heap.size + 2 ≤ b ∧ b < wr.heap.size) := fun b hb => so.lt b hb
        have hCn : ¬ some (w.heap.size + 1) = sv.ownBlock := by intro e; have := hge.out _ e.symm; omega
        have SO : Hid (wr.ownsRow (w.heap.size + 2) 5 1 sv L.length (L.map (fun x => .int .u8 x.1))) := so
        clear hst hd tr ao so h32
        go_wp2
        go_region_law
          ((refine step_append_lies _ (by rfl) _ _ _ (by rfl) (w.heap.size + 2) 5 i5 (.int .u8 0) 1 1 Tryz.underlying247 hi5 hx0 hx1 hx2 rfl (by omega) sv L.length (L.map (fun x => .int .u8 x.1)) (by rfl) (by exact SO.out.alloc _) ⟨wr.heap.size, 0, none⟩ 1 1 [.int .u8 (s[i].toNat : Int)] (by rfl) (by rfl) (by exact news_one wr rfl _ _) (by intro u hu; simp at hu; subst hu; rfl) (by omega) (by unfold maxLen; omega) (by omega) (by simp; omega) (wr.heap.size + 1) (by simp) ?_; intro g cap w1 hown1 hgrow hat hlt; obtain ⟨kC, kz⟩ := far_cellsR hgrow lt hCn))
        all_goals
          obtain ⟨kk, f0, f1, f2, ffz, fso, fao, ftr⟩ := HC.out.byte hgrow hown1
          have fl : w.heap.size + 1 < (w1.setCell ⟨w.heap.size + 1, 0, none⟩ (.slice (some ⟨g, 0, none⟩) (L.length + 1) cap)).heap.size := Nat.lt_of_lt_of_le lt kk.size
          have KW : Hid (Nw w (w1.setCell ⟨w.heap.size + 1, 0, none⟩ (.slice (some ⟨g, 0, none⟩) (L.length + 1) cap))) := Kp.trans' HK.out kk (fun b hb h => by
            rcases h with e | e
            · omega
            · have := hge.out b e; omega)
          clear kk hown1 hgrow hat kC kz SO
          generalize (w1.setCell ⟨w.heap.size + 1, 0, none⟩ (.slice (some ⟨g, 0, none⟩) (L.length + 1) cap)) = W2 at *
          have AO : Hid (W2.ownsRow (w.heap.size + 2) 3 1 av L.length (L.map (fun x => .int .i64 x.2))) := fao
          have FSO : Hid (W2.ownsRow (w.heap.size + 2) 5 1 (.slice (some ⟨g, 0, none⟩) (L.length + 1) cap) (L.length + 1) (L.map (fun x => .int .u8 x.1) ++ [.int .u8 (s[i].toNat : Int)])) := fso
          have FTR : Hid (Tr W2 w.heap.size (.slice none 0 0) (.slice none 0 0) 0 (-1)) := ftr
          clear fao fso ftr c0 c1 c2 fz
          have hq5 : ¬ w.heap.size + 1 = W2.heap.size := by omega
          go_wp2_with (at_builtin; refine wpList_append_lies _ rfl _ _ 73 rfl (w.heap.size + 2) 3 i3 (.int .i64 0) 1 8 Tryz.underlying73 hi3 hy0 hy1 hy2 rfl (by decide) _ _ _ rfl (AO.out.alloc _) ⟨W2.heap.size, 0, none⟩ 1 1 [.int .i64 (i : Int)] rfl rfl (news_one _ rfl _ _) (by intro u hu; simp at hu; subst hu; rfl) (by decide) (by unfold maxLen; omega) (by omega) (by simp; omega) _ rfl ?_)
          intro g3 cap3 w3 hown3 hgrow3 hat3 hlt3
          have hge3 : ∀ b, av.ownBlock = some b → w.heap.size + 2 ≤ b := fun b hb => (AO.out.lt b hb).1
          obtain ⟨cb3, kk3⟩ := CB.place (c := (s[i].toNat : Int)) (i := i) f0 f1 f2 ffz FSO.out AO.out FTR.out fl hC1 hT1 ne1 hgrow3 hown3
          have CB3 : Hid (CB (w3.setCell ⟨w.heap.size + 1, 1, none⟩ (.slice (some ⟨g3, 0, none⟩) (L.length + 1) cap3)) (w.heap.size + 1) w.heap.size (w.heap.size + 2) (.slice (some ⟨g, 0, none⟩) (L.length + 1) cap) (.slice (some ⟨g3, 0, none⟩) (L.length + 1) cap3) (L ++ [((s[i].toNat : Int), i)])) := cb3
          have KW3 : Hid (Nw w (w3.setCell ⟨w.heap.size + 1, 1, none⟩ (.slice (some ⟨g3, 0, none⟩) (L.length + 1) cap3))) := Kp.trans' KW.out kk3 (fun b hb h => by
            rcases h with e | e
            · omega
            · have := hge3 b e; omega)
          have hCn3 : ¬ some (w.heap.size + 1) = av.ownBlock := by intro e; have := hge3 _ e.symm; omega
          have m1 : w3.cell? ⟨w.heap.size + 1, 1, none⟩ = some av := ((hgrow3.cell_far _ (by simp; omega) hCn3).trans (by simp [go_sem, fl, World.cell?_alloc_past])).trans f1
          have mz : ∀ o, w3.frozen? ⟨w.heap.size + 1, o, none⟩ = false := fun o => ((hgrow3.frozen_far _ (by simp; omega) hCn3).trans (by simp [go_sem, fl, World.frozen?_alloc_past])).trans (ffz o)
          clear cb3 kk3 hown3 hgrow3 hat3 hge3 f0 f1 f2 ffz AO FSO FTR HC KW
          go_wp2
          go_roundg (s.size - (i + 1))
          case measure => omega
          case rel => exact ⟨i + 1, _, _, _, by simp, rfl, by omega, HL2.out, CB3.out, KW3.out⟩
    · have ei : i = s.size := by omega
      have hL0 : L = toks 0 (bI s) := by
        have := HL.out
        rw [ei, bI_drop_end] at this
        simpa [toks] using this
      subst ei
      have hLU := HLU.out
      rw [← hL0] at hLU
      have hpos : 0 < L.length := by
        have h0 := HFT.out.1
        have h1 := HSG.out
        rcases hLU with ⟨_, e⟩ | ⟨p, ds, _, e, _⟩
        · rw [e]; omega
        · rw [e]; simp only [List.length_append, List.length_cons]; omega
      obtain ⟨P, hPC, hPT, hgs, hga, hBs, hBa, hcu, hsv⟩ := HC.out.cu hpos (by omega) (by rw [hL0]; exact toks_bytes _ 0 (bI_range s))
      obtain ⟨C', gs, cs, ga, ca, T'⟩ := P
      simp only at hPC hPT hgs hga hBs hBa hsv
      subst hPC
      subst hPT
      subst hsv
      have hsu : Sub L 0 u := by
        rcases hLU with ⟨_, e⟩ | ⟨p, ds, _, e, _⟩
        · rw [e]; intro k x hk; simpa using hk
        · rw [e]; intro k x hk; rw [Nat.zero_add, List.getElem?_append_left (List.getElem?_eq_some_iff.1 hk).1]; exact hk
      have HSU : Hid (Sub L 0 u) := hsu
      have hna : NoAt u := yAlt_noAt (atomB 8) HYU.out
      have HNA : Hid (NoAt u) := hna
      have HLU2 : Hid ((o = none ∧ L = u) ∨ ∃ p ds, o = some (numV 0 ds) ∧ L = u ++ (64, p) :: ds ∧ (∀ d ∈ ds, isDigitB d.1 = true) ∧ 1 ≤ ds.length ∧ ds.length ≤ 18) := hLU
      have hulL : u.length ≤ L.length := by
        rcases hLU with ⟨_, e⟩ | ⟨p, ds, _, e, _⟩
        · rw [e]; omega
        · rw [e]; simp
      have HCU : Hid (Cu wr ⟨w.heap.size + 1, gs, cs, ga, ca, w.heap.size⟩ L) := hcu
      have HTR : Hid (Tr wr w.heap.size (.slice none 0 0) (.slice none 0 0) 0 (-1)) := tr
      clear hcu hsu hna hLU hL0 HLU HL HC so ao tr c1 c2 fz
      go_wp2
      go_loopg [5, 6] (L.length + 2) (fun m v5 v6 wr' => ∃ (k hi' : Nat) (wi : Int), v5 = .int .i64 hi' ∧ v6 = .int .i64 k ∧ m = L.length + 2 - k ∧ ((k ≤ u.length ∧ hi' = L.length ∧ wi = -1) ∨ (k = u.length + 1 ∧ hi' = u.length ∧ wi = o.getD (-1) ∧ u.length < L.length)) ∧ Cu wr' ⟨w.heap.size + 1, gs, cs, ga, ca, w.heap.size⟩ L ∧ Tr wr' w.heap.size (.slice none 0 0) (.slice none 0 0) 0 wi ∧ Nw w wr')
      case atStart => exact ⟨0, L.length, -1, rfl, rfl, rfl, Or.inl ⟨by omega, rfl, rfl⟩, HCU.out, HTR.out, HK.out⟩
      case round =>
        obtain ⟨k, hi', wi, rfl, rfl, hm2, hcase, cu6, tr6, k6⟩ := hrel
        have CU6 : Hid (Cu wr ⟨w.heap.size + 1, gs, cs, ga, ca, w.heap.size⟩ L) := cu6
        have K6 : Hid (Nw w wr) := k6
        have f0 := cu6.c0
        simp only at f0
        clear cu6 k6 c0 HCU HTR HK
        rcases hcase with ⟨hk1, hk2, hk3⟩ | ⟨hk1, hk2, hk3, hk4⟩
        · subst hk2
          subst hk3
          have TR6 : Hid (Tr wr w.heap.size (.slice none 0 0) (.slice none 0 0) 0 (-1)) := tr6
          clear tr6
          by_cases hku : k < u.length
          · obtain ⟨y, hy⟩ : ∃ y, u[k]? = some y := ⟨u[k], by simp [hku]⟩
            have hLy := HSU.out k y hy
            rw [Nat.zero_add] at hLy
            have cy := CU6.out.bs _ _ hLy
            have hly := (List.getElem?_eq_some_iff.1 hLy).1
            obtain ⟨y0, y1⟩ := CU6.out.rg _ (List.mem_of_getElem? hLy)
            have g64 : (y.1 == 64) = false := by simp; exact HNA.out y (List.mem_of_getElem? hy)
            simp only at cy
            generalize y.1 = yc at *
            clear hy hLy
            go_wp2
            go_roundg (L.length + 2 - (k + 1))
            case measure => omega
            case rel => exact ⟨k + 1, L.length, -1, rfl, by simp, rfl, Or.inl ⟨by omega, rfl, rfl⟩, CU6.out, TR6.out, K6.out⟩
          · have hke : k = u.length := by omega
            rcases HLU2.out with ⟨ho, hLe⟩ | ⟨p, ds, ho, hLe, hd, hd1, hd2⟩
            · have hlu : L.length = u.length := by rw [hLe]
              have HO : Hid (o = none) := ho
              have HLe : Hid (L.length = u.length) := hlu
              rw [hlu]
              rw [hlu] at f0
              subst hke
              clear hLe ho
              rw [HO.out]
              have HCW : Hid (∀ j, Calls Tryz.prog 143 #[.pointer (some ⟨w.heap.size + 1, 0, none⟩), .int .i64 0, .int .i64 (u.length : Int)] (wr.drewN j) (CutPost ⟨w.heap.size + 1, gs, cs, ga, ca, w.heap.size⟩ wr.heap.size L 0 ((none : Option Int).getD (-1)) [] [] (altP (atomP 8) (atomS 8) t.1 t.2 0 0) (altS (atomS 8) t.1 t.2) (wr.drewN j))) := by
                intro j
                obtain ⟨v, r, ev, h1, h2⟩ := HYU.out
                have hw := whole_ok ⟨w.heap.size + 1, gs, cs, ga, ca, w.heap.size⟩ wr.heap.size L 0 ((none : Option Int).getD (-1)) (atom_ok _ _ _ _ _ (HST.out _ _ _ _ _) 8) t.2 t.1 v r 0 h1 h2 (by rw [← ev]; exact HSU.out)
                have hts : TS (wr.drewN j) ⟨w.heap.size + 1, gs, cs, ga, ca, w.heap.size⟩ wr.heap.size L (.slice none 0 0) (.slice none 0 0) 0 ((none : Option Int).getD (-1)) [] [] := by
                  have kq := K6.out.size
                  have ql := CU6.out
                  exact (TS.nw ⟨CU6.out, TR6.out, World.ownsRow_nil _ _ _ _, World.ownsRow_nil _ _ _ _, (by intro x hx; cases hx), CU6.out.ltC, TR6.out.lt, CU6.out.lts, CU6.out.lta, (by simp only; omega), (by simp only; omega), (by simp only; omega), Nat.le_refl _⟩ ((Kp.refl _ _).drewN j))
                have hf1 := HFT.out.1
                have hf2 := HFT.out.2.2
                have hc := CutOk.at (z1 := 0) (z2 := (u.length : Int)) hw (by rfl) (by rw [ev]; simp) hts (by show 0 + (altP (atomP 8) (atomS 8) t.1 t.2 0 0).length ≤ 100000; omega) (by show 0 + (altS (atomS 8) t.1 t.2).length ≤ 100000; omega)
                exact hc
              have v2 := CU6.out.c2
              simp only at v2
              clear HYU HST
              go_wp2
              go_region_with ((go_at_call 143; refine (HCW.out _).mono ?_; rintro e1 w4 ⟨rfl, pv4, sv4, ss4, hss4, t4, k4⟩; have x2 := t4.cu.c2; have x3 := t4.tr.c2; have xz := t4.tr.fz; simp only at x2 x3 xz))
              all_goals
                have K7 : Hid (Nw w w4) := Kp.trans' (K6.out.drewN _) k4 (fun b hb h => by
                  have := K6.out.size
                  rcases h with e | e
                  · omega
                  · omega)
                have hss5 : ∀ y ∈ ss4, y.1.tests.length ≤ 1000 := fun y hy => HTL.out y.1 (by rw [← hss4]; exact List.mem_map_of_mem hy)
                have hs4 : ss4.length = (altS (atomS 8) t.1 t.2).length := by have := congrArg List.length hss4; simpa using this
                have hf1 := HFT.out.1
                have hf2 := HFT.out.2
                have hpos := HSG.out
                simp only [List.nil_append, List.length_nil] at t4
                obtain ⟨Q, hQ, htf⟩ := TS.tree t4 hpos (by omega) (by omega) (by omega) hss5 ((((altP (atomP 8) (atomS 8) t.1 t.2 0 0).length - 1 : Nat) : Int))
                have TF : Hid (TreeF (w4.setCell ⟨w.heap.size, 2, none⟩ (.int .i64 (((altP (atomP 8) (atomS 8) t.1 t.2 0 0).length - 1 : Nat) : Int))) Q (altP (atomP 8) (atomS 8) t.1 t.2 0 0) ss4 ((((altP (atomP 8) (atomS 8) t.1 t.2 0 0).length - 1 : Nat) : Int)) ((none : Option Int).getD (-1))) := htf
                have HQ : Hid (Q.T = w.heap.size) := hQ
                have HS4 : Hid (ss4.map (·.1) = altS (atomS 8) t.1 t.2) := hss4
                have hcast : (([] : List Pt).length : Int) + (altP (atomP 8) (atomS 8) t.1 t.2 0 0).length - 1 = (((altP (atomP 8) (atomS 8) t.1 t.2 0 0).length - 1 : Nat) : Int) := by simp; omega
                have K8 : Hid (Nw w (w4.setCell ⟨w.heap.size, 2, none⟩ (.int .i64 (((altP (atomP 8) (atomS 8) t.1 t.2 0 0).length - 1 : Nat) : Int)))) := K7.out.setCell (p := ⟨w.heap.size, 2, none⟩) (Or.inl (Nat.le_refl _)) _
                have hcast3 : ((altP (atomP 8) (atomS 8) t.1 t.2 0 0).length : Int) - 1 = (((altP (atomP 8) (atomS 8) t.1 t.2 0 0).length - 1 : Nat) : Int) := by omega
                have hcast2 : (0 : Int) + (altP (atomP 8) (atomS 8) t.1 t.2 0 0).length - 1 = (((altP (atomP 8) (atomS 8) t.1 t.2 0 0).length - 1 : Nat) : Int) := by omega
                first | simp only [hcast3] | simp only [hcast2] | simp only [hcast]
                generalize hrt : (((altP (atomP 8) (atomS 8) t.1 t.2 0 0).length - 1 : Nat) : Int) = rt at *
                have HRT : Hid ((((altP (atomP 8) (atomS 8) t.1 t.2 0 0).length - 1 : Nat) : Int) = rt) := hrt
                clear k4 t4 hss4 hss5 hs4 hf1 hf2 hpos htf hQ hcast hcast2 hcast3 hrt
                go_wp2
                go_ret
                exact ⟨Q, ss4, by rw [HQ.out]; rfl, by rw [HQ.out]; exact Nat.le_refl _, by rw [HRT.out, HO.out]; exact TF.out, HS4.out, K8.out⟩
            · have h64 : L[u.length]? = some (64, p) := by rw [hLe, List.getElem?_append_right (Nat.le_refl _)]; simp
              have cy := CU6.out.bs _ _ h64
              have hly := (List.getElem?_eq_some_iff.1 h64).1
              have hsd : Sub L (u.length + 1) ds := by
                intro j z hz
                rw [hLe, List.getElem?_append_right (by omega)]
                have e : u.length + 1 + j - u.length = j + 1 := by omega
                rw [e]; simpa using hz
              have hlen2 : L.length = u.length + 1 + ds.length := by rw [hLe]; simp; omega
              have HVAL : Hid (∀ j {z1 z2 : Int}, z1 = ((u.length + 1 : Nat) : Int) → z2 = (L.length : Int) → Calls Tryz.prog 142 #[.pointer (some ⟨w.heap.size + 1, 0, none⟩), .int .i64 z1, .int .i64 z2] (wr.drewN j) fun e w' => e = .returned (.int .i64 (numV 0 ds)) ∧ w' = wr.drewN j) := fun j z1 z2 e1 e2 => value_at ⟨w.heap.size + 1, gs, cs, ga, ca, w.heap.size⟩ L (u.length + 1) L.length ds (wr.drewN j) (CU6.out.nw ((Kp.refl _ _).drewN j)) hd hd2 hsd hlen2 (by omega) e1 e2
              have HO : Hid (o.getD (-1) = numV 0 ds) := by show _ = _; rw [ho]; rfl
              have v2 := CU6.out.c2
              have v3 := TR6.out.c3
              have vz := TR6.out.fz
              have KQ : Hid (∀ (j : Nat) v, Nw w ((wr.drewN j).setCell ⟨w.heap.size, 3, none⟩ v)) := fun j v => (K6.out.drewN j).setCell (p := ⟨w.heap.size, 3, none⟩) (Or.inl (Nat.le_refl _)) v
              have CQ : Hid (∀ (j : Nat) v, Cu ((wr.drewN j).setCell ⟨w.heap.size, 3, none⟩ v) ⟨w.heap.size + 1, gs, cs, ga, ca, w.heap.size⟩ L) := fun j v => CU6.out.kp (((Kp.refl (fun b => b = w.heap.size) wr).drewN j).setCell (p := ⟨w.heap.size, 3, none⟩) (Or.inr rfl) v) (by simp only; omega) (by simp only; omega) (by simp only; omega)
              have TQ : Hid (∀ (j : Nat) (v : Int), Tr ((wr.drewN j).setCell ⟨w.heap.size, 3, none⟩ (.int .i64 v)) w.heap.size (.slice none 0 0) (.slice none 0 0) 0 v) := fun j v => (TR6.out.sm (((Kp.refl (fun _ => False) wr).drewN j).sm TR6.out.lt (fun h => h))).set3 v
              simp only at cy v2
              subst hke
              clear h64 hsd hLe ho hd hlen2
              have hwr : IntKind.i64.wrap ((u.length : Int) + 1) = (u.length : Int) + 1 := IntWalk.i64_in _ (by omega)
              generalize numV 0 ds = nv at *
              go_wp2
              go_region_with ((go_at_call 142; refine (HVAL.out _ (by first | rfl | (push_cast; rfl) | (push_cast; omega)) (by first | rfl | omega)).mono ?_; rintro e1 w4 ⟨rfl, rfl⟩))
              all_goals
                go_wp2
                go_roundg (L.length + 2 - (u.length + 1))
                case measure => omega
                case rel => exact ⟨u.length + 1, u.length, nv, rfl, by simp, rfl, Or.inr ⟨rfl, rfl, HO.out.symm, hly⟩, CQ.out _ _, TQ.out _ _, KQ.out _ _⟩
        · subst hk2
          have TR6 : Hid (Tr wr w.heap.size (.slice none 0 0) (.slice none 0 0) 0 (o.getD (-1))) := by rw [← hk3]; exact tr6
          clear tr6 hk3
          subst hk1
          have HCW : Hid (∀ j, Calls Tryz.prog 143 #[.pointer (some ⟨w.heap.size + 1, 0, none⟩), .int .i64 0, .int .i64 (u.length : Int)] (wr.drewN j) (CutPost ⟨w.heap.size + 1, gs, cs, ga, ca, w.heap.size⟩ wr.heap.size L 0 (o.getD (-1)) [] [] (altP (atomP 8) (atomS 8) t.1 t.2 0 0) (altS (atomS 8) t.1 t.2) (wr.drewN j))) := by
            intro j
            obtain ⟨v, r, ev, h1, h2⟩ := HYU.out
            have hw := whole_ok ⟨w.heap.size + 1, gs, cs, ga, ca, w.heap.size⟩ wr.heap.size L 0 (o.getD (-1)) (atom_ok _ _ _ _ _ (HST.out _ _ _ _ _) 8) t.2 t.1 v r 0 h1 h2 (by rw [← ev]; exact HSU.out)
            have hts : TS (wr.drewN j) ⟨w.heap.size + 1, gs, cs, ga, ca, w.heap.size⟩ wr.heap.size L (.slice none 0 0) (.slice none 0 0) 0 (o.getD (-1)) [] [] := by
              have kq := K6.out.size
              have ql := CU6.out
              exact (TS.nw ⟨CU6.out, TR6.out, World.ownsRow_nil _ _ _ _, World.ownsRow_nil _ _ _ _, (by intro x hx; cases hx), CU6.out.ltC, TR6.out.lt, CU6.out.lts, CU6.out.lta, (by simp only; omega), (by simp only; omega), (by simp only; omega), Nat.le_refl _⟩ ((Kp.refl _ _).drewN j))
            have hf1 := HFT.out.1
            have hf2 := HFT.out.2.2
            have hc := CutOk.at (z1 := 0) (z2 := (u.length : Int)) hw (by rfl) (by rw [ev]; simp) hts (by show 0 + (altP (atomP 8) (atomS 8) t.1 t.2 0 0).length ≤ 100000; omega) (by show 0 + (altS (atomS 8) t.1 t.2).length ≤ 100000; omega)
            exact hc
          have v2 := CU6.out.c2
          simp only at v2
          clear HYU HST
          go_wp2
          go_region_with ((go_at_call 143; refine (HCW.out _).mono ?_; rintro e1 w4 ⟨rfl, pv4, sv4, ss4, hss4, t4, k4⟩; have x2 := t4.cu.c2; have x3 := t4.tr.c2; have xz := t4.tr.fz; simp only at x2 x3 xz))
          all_goals
            have K7 : Hid (Nw w w4) := Kp.trans' (K6.out.drewN _) k4 (fun b hb h => by
              have := K6.out.size
              rcases h with e | e
              · omega
              · omega)
            have hss5 : ∀ y ∈ ss4, y.1.tests.length ≤ 1000 := fun y hy => HTL.out y.1 (by rw [← hss4]; exact List.mem_map_of_mem hy)
            have hs4 : ss4.length = (altS (atomS 8) t.1 t.2).length := by have := congrArg List.length hss4; simpa using this
            have hf1 := HFT.out.1
            have hf2 := HFT.out.2
            have hpos := HSG.out
            simp only [List.nil_append, List.length_nil] at t4
            obtain ⟨Q, hQ, htf⟩ := TS.tree t4 hpos (by omega) (by omega) (by omega) hss5 ((((altP (atomP 8) (atomS 8) t.1 t.2 0 0).length - 1 : Nat) : Int))
            have TF : Hid (TreeF (w4.setCell ⟨w.heap.size, 2, none⟩ (.int .i64 (((altP (atomP 8) (atomS 8) t.1 t.2 0 0).length - 1 : Nat) : Int))) Q (altP (atomP 8) (atomS 8) t.1 t.2 0 0) ss4 ((((altP (atomP 8) (atomS 8) t.1 t.2 0 0).length - 1 : Nat) : Int)) (o.getD (-1))) := htf
            have HQ : Hid (Q.T = w.heap.size) := hQ
            have HS4 : Hid (ss4.map (·.1) = altS (atomS 8) t.1 t.2) := hss4
            have hcast : (([] : List Pt).length : Int) + (altP (atomP 8) (atomS 8) t.1 t.2 0 0).length - 1 = (((altP (atomP 8) (atomS 8) t.1 t.2 0 0).length - 1 : Nat) : Int) := by simp; omega
            have K8 : Hid (Nw w (w4.setCell ⟨w.heap.size, 2, none⟩ (.int .i64 (((altP (atomP 8) (atomS 8) t.1 t.2 0 0).length - 1 : Nat) : Int)))) := K7.out.setCell (p := ⟨w.heap.size, 2, none⟩) (Or.inl (Nat.le_refl _)) _
            have hcast3 : ((altP (atomP 8) (atomS 8) t.1 t.2 0 0).length : Int) - 1 = (((altP (atomP 8) (atomS 8) t.1 t.2 0 0).length - 1 : Nat) : Int) := by omega
            have hcast2 : (0 : Int) + (altP (atomP 8) (atomS 8) t.1 t.2 0 0).length - 1 = (((altP (atomP 8) (atomS 8) t.1 t.2 0 0).length - 1 : Nat) : Int) := by omega
            first | simp only [hcast3] | simp only [hcast2] | simp only [hcast]
            generalize hrt : (((altP (atomP 8) (atomS 8) t.1 t.2 0 0).length - 1 : Nat) : Int) = rt at *
            have HRT : Hid ((((altP (atomP 8) (atomS 8) t.1 t.2 0 0).length - 1 : Nat) : Int) = rt) := hrt
            clear k4 t4 hss4 hss5 hs4 hf1 hf2 hpos htf hQ hcast hcast2 hcast3 hrt
            go_wp2
            go_ret
            exact ⟨Q, ss4, by rw [HQ.out]; rfl, by rw [HQ.out]; exact Nat.le_refl _, by rw [HRT.out]; exact TF.out, HS4.out, K8.out⟩
end Go.Proofs.YtcboiapggnmpfaaGreat
