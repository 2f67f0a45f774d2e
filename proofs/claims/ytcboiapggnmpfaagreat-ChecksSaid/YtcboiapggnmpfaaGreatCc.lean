/- Walks: spotterref: the cutter's tree, and one part more. -/
import Derived.Test.YtcboiapggnmpfaaGreatQg
import Derived.Deep.RegionLaw
import Derived.Deep.DrawnRows
namespace Go.Proofs.YtcboiapggnmpfaaGreat
open Go.RowKit
set_option linter.unusedSimpArgs false
set_option linter.unusedVariables false

def ptC (x : Pt) : List Value := [.int .i64 x.op, .int .i64 x.left, .int .i64 x.right, .int .i64 x.low, .int .i64 x.high, .int .i64 x.step]
def ptV (x : Pt) : Value := .agg #[.int .i64 x.op, .int .i64 x.left, .int .i64 x.right, .int .i64 x.low, .int .i64 x.high, .int .i64 x.step]
def ptsC (l : List Pt) : List Value := (l.map ptC).flatten
def tsC (t : Tst) : List Value := [.int .i64 t.left.of, .int .i64 t.left.field, .int .i64 t.left.num, .int .i64 t.rel, .int .i64 t.right.of, .int .i64 t.right.field, .int .i64 t.right.num, .int .i64 t.arith, .int .i64 t.more.of, .int .i64 t.more.field, .int .i64 t.more.num]
def tssC (l : List Tst) : List Value := (l.map tsC).flatten
def seC (x : St × Value) : List Value := [.int .i64 x.1.kind, .int .i64 x.1.name, .int .i64 x.1.pos, x.2]
def sesC (l : List (St × Value)) : List Value := (l.map seC).flatten
/-- The tree's four cells. -/
structure Tr (w : World) (T : Nat) (pv sv : Value) (root win : Int) : Prop where
  c0 : w.cell? ⟨T, 0, none⟩ = some pv
  c1 : w.cell? ⟨T, 1, none⟩ = some sv
  c2 : w.cell? ⟨T, 2, none⟩ = some (.int .i64 root)
  c3 : w.cell? ⟨T, 3, none⟩ = some (.int .i64 win)
  fz : ∀ o, w.frozen? ⟨T, o, none⟩ = false
theorem Tr.lt {w : World} {T : Nat} {pv sv : Value} {root win : Int} (h : Tr w T pv sv root win) : T < w.heap.size := World.block_lt_of_cell? w ⟨T, 0, none⟩ h.c0
theorem Tr.sm {w w' : World} {T : Nat} {pv sv : Value} {root win : Int} (h : Tr w T pv sv root win) (k : Sm w w' T) : Tr w' T pv sv root win :=
  ⟨(k.cell 0).trans h.c0, (k.cell 1).trans h.c1, (k.cell 2).trans h.c2, (k.cell 3).trans h.c3, fun o => (k.froz o).trans (h.fz o)⟩
theorem Tr.set0 {w : World} {T : Nat} {pv sv : Value} {root win : Int} (h : Tr w T pv sv root win) (v : Value) : Tr (w.setCell ⟨T, 0, none⟩ v) T v sv root win := by
  obtain ⟨c0, c1, c2, c3, fz⟩ := h
  constructor <;> simp [go_sem, c0, c1, c2, c3, fz]
theorem Tr.set1 {w : World} {T : Nat} {pv sv : Value} {root win : Int} (h : Tr w T pv sv root win) (v : Value) : Tr (w.setCell ⟨T, 1, none⟩ v) T pv v root win := by
  obtain ⟨c0, c1, c2, c3, fz⟩ := h
  constructor <;> simp [go_sem, c0, c1, c2, c3, fz]
/-- The cutter over L, with the parts ps and the steps ss made so far; rows of its own lie from B on, all else ahead of it. -/
structure TS (w : World) (P : CuP) (B : Nat) (L : List Tok) (pv sv : Value) (root win : Int) (ps : List Pt) (ss : List (St × Value)) : Prop where
  cu : Cu w P L
  tr : Tr w P.T pv sv root win
  parts : w.ownsRow B 303 6 pv ps.length (ptsC ps)
  steps : w.ownsRow B 173 4 sv ss.length (sesC ss)
  tests : ∀ x ∈ ss, w.ownsRow B 38 11 x.2 x.1.tests.length (tssC x.1.tests)
  hC : P.C < B
  hT : P.T < B
  hs : P.gs < B
  ha : P.ga < B
  neC : ¬ P.T = P.C
  nes : ¬ P.T = P.gs
  nea : ¬ P.T = P.ga
  hB : B ≤ w.heap.size
/-- A row stays where writes go to T, to new blocks, and to a row of another element type. -/
theorem owns_apart {w w' : World} {T base size n : Nat} {e e2 : TypeId} {v v2 : Value} {xs xs2 : List Value} {n2 size2 base2 : Nat} (h : w.ownsRow base e size v n xs) (h2 : w.ownsRow base2 e2 size2 v2 n2 xs2) (hne : ¬ e = e2) (hT : T < base)
    (hk : Kp (fun k => k = T ∨ v2.ownBlock = some k) w w') : w'.ownsRow base e size v n xs := by
  refine owns_kp h hk ?_
  rintro g hg (e1 | e1)
  · rcases h.2 with ⟨rfl, _⟩ | ⟨g', cap, cur, rfl, hb, _⟩
    · simp [Value.ownBlock] at hg
    · simp [Value.ownBlock] at hg; omega
  · rcases h.2 with ⟨rfl, _⟩ | ⟨g', cap, cur, rfl, hb, h3, _⟩
    · simp [Value.ownBlock] at hg
    · rcases h2.2 with ⟨rfl, _⟩ | ⟨g2, cap2, cur2, rfl, _, hg2, _⟩
      · simp [Value.ownBlock] at e1
      · simp only [Value.ownBlock, Option.some.injEq] at e1 hg
        subst e1
        subst hg
        rw [h3] at hg2
        simp only [Option.some.injEq, Obj.cells.injEq] at hg2
        exact hne hg2.2.1
theorem TS.nw {w w' : World} {P : CuP} {B : Nat} {L : List Tok} {pv sv : Value} {root win : Int} {ps : List Pt} {ss : List (St × Value)} (h : TS w P B L pv sv root win ps ss) (k : Nw w w') : TS w' P B L pv sv root win ps ss :=
  ⟨h.cu.nw k, h.tr.sm (k.sm h.tr.lt (fun h => h)), owns_kp h.parts k (fun _ _ h => h), owns_kp h.steps k (fun _ _ h => h), fun x hx => owns_kp (h.tests x hx) k (fun _ _ h => h), h.hC, h.hT, h.hs, h.ha, h.neC, h.nes, h.nea, Nat.le_trans h.hB k.size⟩
theorem Tryz.info303 : (Tryz.prog.info? 303).map (fun i => (i.zero, i.size, i.bytes)) = some (some (.agg #[.int .i64 0, .int .i64 0, .int .i64 0, .int .i64 0, .int .i64 0, .int .i64 0]), 6, 48) := by kernel_rfl
theorem oneCellsP (t : Pt) : ∀ u ∈ ptC t, u.oneCell' = true := by
  intro u hu
  simp only [ptC, List.mem_cons, List.not_mem_nil, or_false] at hu
  rcases hu with h | h | h | h | h | h <;> subst h <;> rfl
theorem news_snd (w2 : World) (o : Obj) (cs : Array Value) (t : TypeId) : ∀ j u, cs.toList[j]? = some u → ((w2.alloc o).alloc (.cells cs t)).cell? ((⟨w2.heap.size + 1, 0, none⟩ : Addr).add j) = some u :=
  World.news_of_block (by have := heap_alloc_new (w2.alloc o) (.cells cs t); simpa using this)
theorem ret_intC {k : IntKind} {a b : Int} (h : a = b) : Ending.returned (.int k a) = .returned (.int k b) := by rw [h]
abbrev KT (T B : Nat) (w w' : World) : Prop := Kp (fun b => b = T ∨ B ≤ b) w w'
set_option maxRecDepth 100000 in
set_option maxHeartbeats 1000000 in
theorem part_any (P : CuP) (B : Nat) (L : List Tok) (pv sv : Value) (root win : Int) (ps : List Pt) (ss : List (St × Value)) (x : Pt) (w : World) (h : TS w P B L pv sv root win ps ss) (hN : ps.length ≤ 100000) :
    Calls Tryz.prog 187 #[.pointer (some ⟨P.C, 0, none⟩), ptV x] w fun e w' =>
      e = .returned (.int .i64 ps.length) ∧ ∃ pv', TS w' P B L pv' sv root win (ps ++ [x]) ss ∧ KT P.T B w w' := by
  have H : Hid (TS w P B L pv sv root win ps ss) := h
  have hlC := h.cu.ltC
  have hlT := h.tr.lt
  have d2 := h.cu.c2
  have c0 := h.tr.c0
  have fz := h.tr.fz
  have hown := h.parts
  have hB := h.hB
  have hTB := h.hT
  have hCB := h.hC
  have hTC := h.neC
  have hTC' : ¬ P.C = P.T := fun e => hTC e.symm
  clear h
  obtain ⟨C, gs, cs, ga, ca, T⟩ := P
  simp only at *
  obtain ⟨i0, hi, hz0, hz1, hz2⟩ := info_parts Tryz.info303
  have hne1 : ¬ w.heap.size = C := by omega
  have hne2 : ¬ C = w.heap.size := by omega
  have hne3 : ¬ w.heap.size = T := by omega
  have hne4 : ¬ T = w.heap.size := by omega
  have hge : Hid (∀ b, pv.ownBlock = some b → B ≤ b ∧ b < w.heap.size) := fun b hb => hown.lt b hb
  have hTn : ¬ some T = pv.ownBlock := by intro e; have := hge.out T e.symm; omega
  have hCn : ¬ some C = pv.ownBlock := by intro e; have := hge.out C e.symm; omega
  unfold ptV
  go_enter Tryz.func187, Tryz.ntmps187
  go_wp2
  go_region_law
    ((refine step_append_lies _ (by rfl) _ _ _ (by rfl) B 303 i0 (.agg #[.int .i64 0, .int .i64 0, .int .i64 0, .int .i64 0, .int .i64 0, .int .i64 0]) 6 48 Tryz.underlying174 hi hz0 hz1 hz2 rfl (by omega) pv ps.length (ptsC ps) (by rfl) (by exact (hown.alloc _).alloc _) ⟨w.heap.size + 1, 0, none⟩ 1 1 (ptC x) (by rfl) (by rfl) (by exact news_snd w _ _ _) (oneCellsP x) (by omega) (by unfold maxLen; omega) (by omega) (by simp; omega) (w.heap.size + 2) (by simp) ?_; intro g cap w1 hown1 hgrow hat hlt; have kT : ∀ o, w1.cell? ⟨T, o, none⟩ = w.cell? ⟨T, o, none⟩ := (fun o => (hgrow.cell_far _ (by simp; omega) hTn).trans (by simp [go_sem, hlT, World.cell?_alloc_past])); have kz : ∀ o, w1.frozen? ⟨T, o, none⟩ = w.frozen? ⟨T, o, none⟩ := (fun o => (hgrow.frozen_far _ (by simp; omega) hTn).trans (by simp [go_sem, hlT, World.frozen?_alloc_past])); have kC : ∀ o, w1.cell? ⟨C, o, none⟩ = w.cell? ⟨C, o, none⟩ := (fun o => (hgrow.cell_far _ (by simp; omega) hCn).trans (by simp [go_sem, hlC, World.cell?_alloc_past]))))
  all_goals
    have kg : Kp (fun b => b = T ∨ pv.ownBlock = some b) w w1 := ((((Kp.refl _ w).alloc _).alloc _).drew).grown hgrow (fun b hb => Or.inr (Or.inr hb))
    have K1 : Hid (Kp (fun b => b = T ∨ pv.ownBlock = some b) w w1) := kg
    have T1 : Hid (Tr w1 T pv sv root win) := H.out.tr.sm ⟨kT, kz⟩
    have O1 : Hid (w1.ownsRow B 303 6 (.slice (some ⟨g, 0, none⟩) (ps.length + 1) cap) (ps ++ [x]).length (ptsC (ps ++ [x]))) := by
      have e1 : (ps ++ [x]).length = ps.length + 1 := by simp
      have e2 : ptsC (ps ++ [x]) = ptsC ps ++ ptC x := by simp [ptsC]
      show w1.ownsRow _ _ _ _ _ _
      rw [e1, e2]
      exact hown1
    have hsz := hgrow.size
    clear hown1 hgrow hat kg
    go_wp2
    go_ret
    have K2 : Kp (fun b => b = T ∨ pv.ownBlock = some b) w (w1.setCell ⟨T, 0, none⟩ (.slice (some ⟨g, 0, none⟩) (ps.length + 1) cap)) := K1.out.setCell (p := ⟨T, 0, none⟩) (Or.inr (Or.inl rfl)) _
    have hno : ∀ b, b < B → ¬ b = T → ¬ (b = T ∨ pv.ownBlock = some b) := by
      rintro b hb hbT (e | e)
      · exact hbT e
      · have := hge.out b e; omega
    refine ⟨ret_intC (by omega), .slice (some ⟨g, 0, none⟩) (ps.length + 1) cap, ?_, ?_⟩
    · refine ⟨H.out.cu.kp K2 (hno _ H.out.hC hTC') (hno _ H.out.hs (fun e => H.out.nes e.symm)) (hno _ H.out.ha (fun e => H.out.nea e.symm)), T1.out.set0 _, ?_, ?_, ?_, H.out.hC, H.out.hT, H.out.hs, H.out.ha, H.out.neC, H.out.nes, H.out.nea, Nat.le_trans hB K2.size⟩
      · exact ownsRow_setCell_below O1.out (a := ⟨T, 0, none⟩) hTB _
      · exact owns_apart H.out.steps H.out.parts (by decide) hTB K2
      · exact fun y hy => owns_apart (H.out.tests y hy) H.out.parts (by decide) hTB K2
    · refine K2.mono ?_
      rintro b _ (e | e)
      · exact Or.inl e
      · exact Or.inr (hge.out b e).1
end Go.Proofs.YtcboiapggnmpfaaGreat
