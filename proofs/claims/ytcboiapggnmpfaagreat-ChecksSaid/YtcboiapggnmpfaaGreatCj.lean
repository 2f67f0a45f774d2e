/- Walks: spotterref: the cutter's steps: what is made of a step at its end. -/
import Derived.Test.YtcboiapggnmpfaaGreatCd
import Derived.Test.YtcboiapggnmpfaaGreatCe
import Derived.BigRegion
import Derived.Deep.RegionHeld3
namespace Go.Proofs.YtcboiapggnmpfaaGreat
open Go.RowKit
set_option linter.unusedSimpArgs false
set_option linter.unusedVariables false

theorem yTsts_split {t : Tst} {ts : List Tst} {v : List Tok} (h : yTsts (t :: ts) v) : ∃ a e p v', v = a ++ (e, p) :: v' ∧ yTst t a ∧ ((e = 93 ∧ v' = [] ∧ ts = []) ∨ (e = 38 ∧ yTsts ts v')) := by
  cases ts with
  | nil => obtain ⟨a, p, ha, e⟩ := h; exact ⟨a, 93, p, [], e, ha, Or.inl ⟨rfl, rfl, rfl⟩⟩
  | cons t2 ts => obtain ⟨a, p, v', ha, e, hv⟩ := h; exact ⟨a, 38, p, v', e, ha, Or.inr ⟨rfl, hv⟩⟩
theorem yTsts_len : ∀ (ts : List Tst) (v : List Tok), yTsts ts v → ts.length ≤ v.length := by
  intro ts
  induction ts with
  | nil => intro v h; simp
  | cons t ts ih =>
    intro v h
    obtain ⟨a, e, p, v', ev, _, h2⟩ := yTsts_split h
    subst ev
    rcases h2 with ⟨_, _, h3⟩ | ⟨_, h3⟩
    · subst h3; simp; omega
    · have := ih v' h3; simp; omega
theorem testC_at (P : CuP) (L : List Tok) (lo hi : Nat) (t : Tst) (u : List Tok) (w : World) (h : Cu w P L) (hy : yTst t u) (hS : Sub L lo u) (hhi : hi = lo + u.length) {z1 z2 : Int} (e1 : z1 = lo) (e2 : z2 = hi) :
    Calls Tryz.prog 244 #[.pointer (some ⟨P.C, 0, none⟩), .int .i64 z1, .int .i64 z2] w fun e w' => e = .returned (.agg (tsV t)) ∧ Nw w w' := by
  subst e1; subst e2
  exact testC_any P L lo hi t u w h hy hS hhi
theorem own_ge' {w : World} {B size n : Nat} {e : TypeId} {v : Value} {xs : List Value} (h : w.ownsRow B e size v n xs) {b : Nat} (hb : v.ownBlock = some b) : B ≤ b ∧ b < w.heap.size := h.lt b hb
theorem owns_base' {w : World} {base base' n size : Nat} {e : TypeId} {v : Value} {xs : List Value} (h : w.ownsRow base e size v n xs) (hb : base' ≤ base) : w.ownsRow base' e size v n xs := by
  refine ⟨h.1, ?_⟩
  rcases h.2 with h2 | ⟨g, cap, cur, h2, h3, h4⟩
  · exact Or.inl h2
  · exact Or.inr ⟨g, cap, cur, h2, by omega, h4⟩
theorem oneCellsS (k n : Int) (p : Nat) (a : Option Addr) (l c : Nat) : ∀ u ∈ [Value.int .i64 k, .int .i64 n, .int .i64 p, .slice a l c], u.oneCell' = true := by
  intro u hu
  simp only [List.mem_cons, List.not_mem_nil, or_false] at hu
  rcases hu with h | h | h | h <;> subst h <;> rfl
theorem owns_lenC {w : World} {base n size : Nat} {e : TypeId} {v : Value} {xs : List Value} (h : w.ownsRow base e size v n xs) : ∃ p c, v = .slice p n c := by
  rcases h.2 with ⟨h2, h3⟩ | ⟨g', cap', cur, h2, _⟩
  · exact ⟨none, 0, by rw [h2, h3]⟩
  · exact ⟨_, _, h2⟩
theorem tssC_snoc (dn : List Tst) (t : Tst) : tssC (dn ++ [t]) = tssC dn ++ tsC t := by simp [tssC]
theorem oneCellsT (t : Tst) : ∀ u ∈ tsC t, u.oneCell' = true := by
  intro u hu
  simp only [tsC, List.mem_cons, List.not_mem_nil, or_false] at hu
  rcases hu with h | h | h | h | h | h | h | h | h | h | h <;> subst h <;> rfl
theorem Tryz.info38 : (Tryz.prog.info? 38).map (fun i => (i.zero, i.size, i.bytes)) = some (some (.agg #[.int .i64 0, .int .i64 0, .int .i64 0, .int .i64 0, .int .i64 0, .int .i64 0, .int .i64 0, .int .i64 0, .int .i64 0, .int .i64 0, .int .i64 0]), 11, 88) := by kernel_rfl
theorem Tryz.info173 : (Tryz.prog.info? 173).map (fun i => (i.zero, i.size, i.bytes)) = some (some (.agg #[.int .i64 0, .int .i64 0, .int .i64 0, .slice none 0 0]), 4, 48) := by kernel_rfl
theorem TS.step {w w1 : World} {P : CuP} {B : Nat} {L : List Tok} {pv sv : Value} {root win : Int} {ps : List Pt} {ss : List (St × Value)} {x : St × Value} {v : Value} (h : TS w P B L pv sv root win ps ss) (k : Kp (fun b => b = P.T ∨ sv.ownBlock = some b) w w1) (t : Tr w1 P.T pv sv root win)
    (o : w1.ownsRow B 173 4 v (ss ++ [x]).length (sesC (ss ++ [x]))) (ot : w.ownsRow B 38 11 x.2 x.1.tests.length (tssC x.1.tests)) : TS (w1.setCell ⟨P.T, 1, none⟩ v) P B L pv v root win ps (ss ++ [x]) := by
  have K2 : Kp (fun b => b = P.T ∨ sv.ownBlock = some b) w (w1.setCell ⟨P.T, 1, none⟩ v) := k.setCell (p := ⟨P.T, 1, none⟩) (Or.inr (Or.inl rfl)) _
  have hno : ∀ b, b < B → ¬ b = P.T → ¬ (b = P.T ∨ sv.ownBlock = some b) := by
    rintro b hb hbT (e | e)
    · exact hbT e
    · have := h.steps.lt b e; omega
  refine ⟨h.cu.kp K2 (hno _ h.hC (fun e => h.neC e.symm)) (hno _ h.hs (fun e => h.nes e.symm)) (hno _ h.ha (fun e => h.nea e.symm)), t.set1 _, owns_apart h.parts h.steps (by decide) h.hT K2, ownsRow_setCell_below o (a := ⟨P.T, 1, none⟩) h.hT _, ?_, h.hC, h.hT, h.hs, h.ha, h.neC, h.nes, h.nea, Nat.le_trans h.hB K2.size⟩
  intro y hy
  rcases List.mem_append.1 hy with hy | hy
  · exact owns_apart (h.tests y hy) h.steps (by decide) h.hT K2
  · simp at hy; subst hy
    exact owns_apart ot h.steps (by decide) h.hT K2
theorem KT.step {w0 w w1 : World} {P : CuP} {B : Nat} {L : List Tok} {pv sv : Value} {root win : Int} {ps : List Pt} {ss : List (St × Value)} {v : Value} (k0 : Nw w0 w) (k : Kp (fun b => b = P.T ∨ sv.ownBlock = some b) w w1) (h : TS w P B L pv sv root win ps ss) : KT P.T B w0 (w1.setCell ⟨P.T, 1, none⟩ v) := by
  have K2 : Kp (fun b => b = P.T ∨ sv.ownBlock = some b) w (w1.setCell ⟨P.T, 1, none⟩ v) := k.setCell (p := ⟨P.T, 1, none⟩) (Or.inr (Or.inl rfl)) _
  refine Kp.trans' (k0.mono (fun _ _ h => h.elim)) K2 ?_
  rintro i hi (e | e)
  · exact Or.inl e
  · exact Or.inr (h.steps.lt i e).1
theorem far_cells {wr w1 : World} {ob : Obj} {row : Option Nat} {T : Nat} (hgrow : ((wr.alloc ob).drew).grownBy w1 row) (hT : T < wr.heap.size) (hn : ¬ some T = row) : (∀ o, w1.cell? ⟨T, o, none⟩ = wr.cell? ⟨T, o, none⟩) ∧ (∀ o, w1.frozen? ⟨T, o, none⟩ = wr.frozen? ⟨T, o, none⟩) :=
  ⟨fun o => (hgrow.cell_far _ (by simp; omega) hn).trans (by simp [go_sem, hT, World.cell?_alloc_past]), fun o => (hgrow.frozen_far _ (by simp; omega) hn).trans (by simp [go_sem, hT, World.frozen?_alloc_past])⟩
theorem step_rel {w wr w1 : World} {P : CuP} {B : Nat} {L : List Tok} {pv sv v : Value} {root win : Int} {ps : List Pt} {ss : List (St × Value)} {x : St × Value} {ob : Obj} (TR : TS wr P B L pv sv root win ps ss) (K3 : Nw w wr) (OT : wr.ownsRow B 38 11 x.2 x.1.tests.length (tssC x.1.tests))
    (hgrow : ((wr.alloc ob).drew).grownBy w1 sv.ownBlock) (hown1 : w1.ownsRow B 173 4 v (ss.length + 1) (sesC ss ++ [.int .i64 x.1.kind, .int .i64 x.1.name, .int .i64 x.1.pos, x.2])) :
    TS (w1.setCell ⟨P.T, 1, none⟩ v) P B L pv v root win ps (ss ++ [x]) ∧ KT P.T B w (w1.setCell ⟨P.T, 1, none⟩ v) := by
  have K1 : Kp (fun b => b = P.T ∨ sv.ownBlock = some b) wr w1 := (((Kp.refl _ wr).alloc _).drew).grown hgrow (fun b hb => Or.inr (Or.inr hb))
  have hTn : ¬ some P.T = sv.ownBlock := by intro e; have := TR.steps.lt P.T e.symm; have := TR.hT; omega
  obtain ⟨kT, kz⟩ := far_cells hgrow TR.tr.lt hTn
  have O1 : w1.ownsRow B 173 4 v (ss ++ [x]).length (sesC (ss ++ [x])) := by
    have e1 : (ss ++ [x]).length = ss.length + 1 := by simp
    have e2 : sesC (ss ++ [x]) = sesC ss ++ [.int .i64 x.1.kind, .int .i64 x.1.name, .int .i64 x.1.pos, x.2] := by simp [sesC, seC]
    rw [e1, e2]; exact hown1
  exact ⟨TS.step TR K1 (TR.tr.sm ⟨kT, kz⟩) O1 OT, KT.step K3 K1 TR⟩
/-- A step in a variable. -/
structure SA (w : World) (S : Nat) (k n : Int) (p : Nat) (tv : Value) : Prop where
  c0 : w.cell? ⟨S, 0, none⟩ = some (.int .i64 k)
  c1 : w.cell? ⟨S, 1, none⟩ = some (.int .i64 n)
  c2 : w.cell? ⟨S, 2, none⟩ = some (.int .i64 p)
  c3 : w.cell? ⟨S, 3, none⟩ = some tv
  fz : ∀ o, w.frozen? ⟨S, o, none⟩ = false
  lt : S < w.heap.size
theorem SA.kp {S0 : Nat → Prop} {w w' : World} {S : Nat} {k n : Int} {p : Nat} {tv : Value} (h : SA w S k n p tv) (kk : Kp S0 w w') (hs : ¬ S0 S) : SA w' S k n p tv :=
  ⟨(kk.cell (p := ⟨S, 0, none⟩) h.lt hs).trans h.c0, (kk.cell (p := ⟨S, 1, none⟩) h.lt hs).trans h.c1, (kk.cell (p := ⟨S, 2, none⟩) h.lt hs).trans h.c2, (kk.cell (p := ⟨S, 3, none⟩) h.lt hs).trans h.c3, fun o => (kk.frozen (p := ⟨S, o, none⟩) h.lt hs).trans (h.fz o), Nat.lt_of_lt_of_le h.lt kk.size⟩
/-- The region with this number. -/
def findR (n : Nat) : Code → Option Code
  | .region k o b => if k = n then some (.region k o b) else none
  | .loop c => findR n c
  | .seq a b => match findR n a with
    | some c => some c
    | none => findR n b
  | .block _ c => findR n c
  | .scope c => findR n c
  | .cond _ a b => match findR n a with
    | some c => some c
    | none => findR n b
  | _ => none
set_option maxRecDepth 1000000 in
set_option maxHeartbeats 40000000 in
theorem atom_end (C gs cs ga ca T S B : Nat) (L : List Tok) (pv sv : Value) (root win : Int) (ps : List Pt) (ss : List (St × Value)) (kind name : Int) (pos : Nat) (tests : List Tst) (tp : Option Addr) (tc : Nat) (w wr : World) (c1 c2 c3 c4 c5 c6 c8 c9 c10 c11 c12 c13 c14 c15 c16 c17 c18 c19 c20 c21 c22 c23 c24 c25 c26 c27 c28 c29 c30 c31 c32 c33 c34 c35 c36 c37 c38 c39 c40 c41 c42 c43 c44 c45 c46 c47 c48 c49 c50 c51 c52 c53 c54 c55 c56 c57 c58 c59 c60 c61 c62 c63 c64 c65 c66 c67 c68 c69 c70 c71 c72 c73 c74 c75 c76 c77 c78 c79 c80 c81 c82 c83 c84 c85 c86 c87 c88 c89 c90 c91 c92 c93 c94 c95 c96 c97 c98 c99 c100 c101 c102 c103 c104 c105 c106 c107 c108 c109 c110 c111 c112 c113 c114 c115 c116 c117 c118 c119 c120 c121 c122 c123 c124 c125 c126 c127 c128 c129 c130 c131 c132 c133 c134 c135 c136 c137 c138 c139 c140 c141 c142 c143 c144 c145 c146 c147 c148 c149 c150 c151 c152 : Value) (Q0 : Exit → Act → World → Prop)
    (TR : Hid (TS wr ⟨C, gs, cs, ga, ca, T⟩ B L pv sv root win ps ss)) (K3 : Hid (Nw w wr)) (OT : Hid (wr.ownsRow B 38 11 (.slice tp tests.length tc) tests.length (tssC tests))) (hsa : SA wr S kind name pos (.slice tp tests.length tc)) (hMM : ss.length + 1 ≤ 100000)
    (hQ : Hid (∀ (d125 d126 d127 d128 d129 d130 d131 d132 d133 d134 d135 d136 d137 d138 d139 d140 : Value) (wx : World), (∃ sv', TS wx ⟨C, gs, cs, ga, ca, T⟩ B L pv sv' root win ps (ss ++ [(⟨kind, name, pos, tests⟩, .slice tp tests.length tc)]) ∧ KT T B w wx) → Q0 .normal ⟨#[.pointer (some ⟨C, 0, none⟩), c1, c2, c3, c4, c5, c6, .pointer (some ⟨S, 0, none⟩), c8, c9, c10, c11, c12, c13, c14, c15, c16, c17, c18, c19, c20, c21, c22, c23, c24, c25, c26, c27, c28, c29, c30, c31, c32, c33, c34, c35, c36, c37, c38, c39, c40, c41, c42, c43, c44, c45, c46, c47, c48, c49, c50, c51, c52, c53, c54, c55, c56, c57, c58, c59, c60, c61, c62, c63, c64, c65, c66, c67, c68, c69, c70, c71, c72, c73, c74, c75, c76, c77, c78, c79, c80, c81, c82, c83, c84, c85, c86, c87, c88, c89, c90, c91, c92, c93, c94, c95, c96, c97, c98, c99, c100, c101, c102, c103, c104, c105, c106, c107, c108, c109, c110, c111, c112, c113, c114, c115, c116, c117, c118, c119, c120, c121, c122, c123, c124, d125, d126, d127, d128, d129, d130, d131, d132, d133, d134, d135, d136, d137, d138, d139, d140, c141, c142, c143, c144, c145, c146, c147, c148, c149, c150, c151, c152], []⟩ wx)) :
    Code.wp Tryz.prog ((Tryz.f227.body.bind (findR 19)).getD .skip) Q0 ⟨#[.pointer (some ⟨C, 0, none⟩), c1, c2, c3, c4, c5, c6, .pointer (some ⟨S, 0, none⟩), c8, c9, c10, c11, c12, c13, c14, c15, c16, c17, c18, c19, c20, c21, c22, c23, c24, c25, c26, c27, c28, c29, c30, c31, c32, c33, c34, c35, c36, c37, c38, c39, c40, c41, c42, c43, c44, c45, c46, c47, c48, c49, c50, c51, c52, c53, c54, c55, c56, c57, c58, c59, c60, c61, c62, c63, c64, c65, c66, c67, c68, c69, c70, c71, c72, c73, c74, c75, c76, c77, c78, c79, c80, c81, c82, c83, c84, c85, c86, c87, c88, c89, c90, c91, c92, c93, c94, c95, c96, c97, c98, c99, c100, c101, c102, c103, c104, c105, c106, c107, c108, c109, c110, c111, c112, c113, c114, c115, c116, c117, c118, c119, c120, c121, c122, c123, c124, c125, c126, c127, c128, c129, c130, c131, c132, c133, c134, c135, c136, c137, c138, c139, c140, c141, c142, c143, c144, c145, c146, c147, c148, c149, c150, c151, c152], []⟩ wr := by
  have d2 := TR.out.cu.c2
  have t1 := TR.out.tr.c1
  have fz := TR.out.tr.fz
  have hown2 := TR.out.steps
  have hB := TR.out.hB
  have hTB := TR.out.hT
  have hCB := TR.out.hC
  have hTC := TR.out.neC
  have hlC := TR.out.cu.ltC
  have hlT := TR.out.tr.lt
  have y0 := hsa.c0
  have y1 := hsa.c1
  have y2 := hsa.c2
  have y3 := hsa.c3
  have hSl := hsa.lt
  simp only at d2 t1 fz hTB hCB hTC hlC hlT
  have hTC' : ¬ C = T := fun e => hTC e.symm
  have hne5 : ¬ C = wr.heap.size := by omega
  have hne6 : ¬ T = wr.heap.size := by omega
  have hne7 : ¬ S = wr.heap.size := by omega
  have hne8 : ¬ wr.heap.size = T := by omega
  have hge : Hid (∀ b, sv.ownBlock = some b → B ≤ b ∧ b < wr.heap.size) := fun b hb => hown2.lt b hb
  have hTn : ¬ some T = sv.ownBlock := by intro e; have := hge.out T e.symm; omega
  have hCn : ¬ some C = sv.ownBlock := by intro e; have := hge.out C e.symm; omega
  obtain ⟨is, his, hs0, hs1, hs2⟩ := info_parts Tryz.info173
  clear hsa
  conv => arg 2; whnf
  refine wp_region_noPanic ?_
  go_region_law
    ((refine step_append_lies _ (by rfl) _ _ _ (by rfl) B 173 is (.agg #[.int .i64 0, .int .i64 0, .int .i64 0, .slice none 0 0]) 4 48 Tryz.underlying175 his hs0 hs1 hs2 rfl (by omega) sv ss.length (sesC ss) (by rfl) (by exact hown2.alloc _) ⟨wr.heap.size, 0, none⟩ 1 1 [.int .i64 kind, .int .i64 name, .int .i64 pos, .slice tp tests.length tc] (by rfl) (by rfl) (by exact news_one wr rfl _ _) (by exact oneCellsS _ _ _ _ _ _) (by omega) (by unfold maxLen; omega) (by omega) (by simp; omega) (wr.heap.size + 1) (by simp) ?_; intro g cap w1 hown1 hgrow hat hlt; obtain ⟨kT, kz⟩ := far_cells hgrow hlT hTn; obtain ⟨kC, kC2⟩ := far_cells hgrow hlC hCn))
  all_goals
    have FIN : Hid (∃ sv', TS (w1.setCell ⟨T, 1, none⟩ (.slice (some ⟨g, 0, none⟩) (ss.length + 1) cap)) ⟨C, gs, cs, ga, ca, T⟩ B L pv sv' root win ps (ss ++ [(⟨kind, name, pos, tests⟩, .slice tp tests.length tc)]) ∧ KT T B w (w1.setCell ⟨T, 1, none⟩ (.slice (some ⟨g, 0, none⟩) (ss.length + 1) cap))) := ⟨_, step_rel (x := (⟨kind, name, pos, tests⟩, .slice tp tests.length tc)) TR.out K3.out OT.out hgrow hown1⟩
    clear hown1 hgrow hat kC2
    refine NoPanic.normal ?_
    exact hQ.out _ _ _ _ _ _ _ _ _ _ _ _ _ _ _ _ _ FIN.out
end Go.Proofs.YtcboiapggnmpfaaGreat
