/- Walks: spotterref: a graph that is made: edges and places; the edges of a part's rounds. -/
import Derived.Test.YtcboiapggnmpfaaGreatCc
import Derived.Test.YtcboiapggnmpfaaGreatQe
import Derived.Test.YtcboiapggnmpfaaGreatYc
import Derived.Deep.RegionLaw
import Derived.Deep.DrawnRows
namespace Go.Proofs.YtcboiapggnmpfaaGreat
open Go.RowKit
set_option linter.unusedSimpArgs false
set_option linter.unusedVariables false

/-- A graph with its edges and its places' steps, both rows of its own. -/
structure GT (w : World) (G B n : Nat) (ev sv : Value) (gi go : Int) (es : List Ed) (st : List Int) : Prop where
  gs : GS w G B n ev sv gi go es
  own2 : w.ownsRow B 3 1 sv st.length (st.map (Value.int .i64))
  ne2 : st.length ≤ 100000
abbrev KE (G : Nat) (ev sv : Value) (w w' : World) : Prop := Kp (fun b => b = G ∨ ev.ownBlock = some b ∨ sv.ownBlock = some b) w w'
theorem KG.ke {G : Nat} {ev : Value} (sv : Value) {w w' : World} (k : KG G ev w w') : KE G ev sv w w' := Kp.mono k (fun i _ h => h.elim Or.inl (fun e => Or.inr (Or.inl e)))
theorem KE.refl (G : Nat) (ev sv : Value) (w : World) : KE G ev sv w w := Kp.refl _ w
theorem KE.trans {G : Nat} {ev sv ev1 sv1 : Value} {w w1 w2 : World} (k : KE G ev sv w w1) (o : Own w ev ev1) (o2 : Own w sv sv1) (k2 : KE G ev1 sv1 w1 w2) : KE G ev sv w w2 := by
  refine Kp.trans' k k2 ?_
  rintro i hi (e | e | e)
  · exact Or.inl e
  · rcases o i e with e | e
    · exact Or.inr (Or.inl e)
    · omega
  · rcases o2 i e with e | e
    · exact Or.inr (Or.inr e)
    · omega
theorem GT.free {w w' : World} {G B n : Nat} {ev ev' sv : Value} {gi go : Int} {es es' : List Ed} {st : List Int} (h : GT w G B n ev sv gi go es st) (g : GS w' G B n ev' sv gi go es') (k : KG G ev w w') : GT w' G B n ev' sv gi go es' st :=
  ⟨g, owns_apart h.own2 h.gs.own (by decide) h.gs.hG k, h.ne2⟩
theorem GS.point {w : World} {G B n : Nat} {ev sv : Value} {gi go : Int} {es : List Ed} (h : GS w G B n ev sv gi go es) : GS (w.setCell ⟨G, 0, none⟩ (.int .i64 ((n + 1 : Nat) : Int))) G B (n + 1) ev sv gi go es := by
  refine ⟨h.gr.set0 _, ownsRow_setCell_below h.own (a := ⟨G, 0, none⟩) h.hG _, h.hG, ?_, h.ne, ?_⟩
  · have := ((Kp.refl (fun b => b = G) w).setCell (p := ⟨G, 0, none⟩) (Or.inr rfl) (.int .i64 ((n + 1 : Nat) : Int))).size
    have := h.hB
    omega
  · intro e he
    have := h.ok e he
    push_cast
    omega
theorem GT.point {w : World} {G B n : Nat} {ev sv : Value} {gi go : Int} {es : List Ed} {st : List Int} (h : GT w G B n ev sv gi go es st) : GT (w.setCell ⟨G, 0, none⟩ (.int .i64 ((n + 1 : Nat) : Int))) G B (n + 1) ev sv gi go es st :=
  ⟨h.gs.point, ownsRow_setCell_below h.own2 (a := ⟨G, 0, none⟩) h.gs.hG _, h.ne2⟩
theorem GT.nw {w w' : World} {G B n : Nat} {ev sv : Value} {gi go : Int} {es : List Ed} {st : List Int} (h : GT w G B n ev sv gi go es st) (k : Nw w w') : GT w' G B n ev sv gi go es st :=
  ⟨⟨h.gs.gr.sm (k.sm h.gs.gr.lt (fun h => h)), owns_kp h.gs.own k (fun _ _ h => h), h.gs.hG, Nat.le_trans h.gs.hB k.size, h.gs.ne, h.gs.ok⟩, owns_kp h.own2 k (fun _ _ h => h), h.ne2⟩
/-- A part in a variable. -/
structure PC (w : World) (X : Nat) (x : Pt) : Prop where
  c0 : w.cell? ⟨X, 0, none⟩ = some (.int .i64 x.op)
  c1 : w.cell? ⟨X, 1, none⟩ = some (.int .i64 x.left)
  c2 : w.cell? ⟨X, 2, none⟩ = some (.int .i64 x.right)
  c3 : w.cell? ⟨X, 3, none⟩ = some (.int .i64 x.low)
  c4 : w.cell? ⟨X, 4, none⟩ = some (.int .i64 x.high)
  c5 : w.cell? ⟨X, 5, none⟩ = some (.int .i64 x.step)
  lt : X < w.heap.size
theorem PC.kp {S : Nat → Prop} {w w' : World} {X : Nat} {x : Pt} (h : PC w X x) (k : Kp S w w') (hs : ¬ S X) : PC w' X x :=
  ⟨(k.cell (p := ⟨X, 0, none⟩) h.lt hs).trans h.c0, (k.cell (p := ⟨X, 1, none⟩) h.lt hs).trans h.c1, (k.cell (p := ⟨X, 2, none⟩) h.lt hs).trans h.c2, (k.cell (p := ⟨X, 3, none⟩) h.lt hs).trans h.c3, (k.cell (p := ⟨X, 4, none⟩) h.lt hs).trans h.c4, (k.cell (p := ⟨X, 5, none⟩) h.lt hs).trans h.c5, Nat.lt_of_lt_of_le h.lt k.size⟩
theorem PC.new (w : World) (x : Pt) : PC (w.alloc (.cells #[.int .i64 x.op, .int .i64 x.left, .int .i64 x.right, .int .i64 x.low, .int .i64 x.high, .int .i64 x.step] 303)) w.heap.size x := by
  constructor <;> simp [go_sem]
/-- The tree lies apart from the graph and from what is made. -/
structure Apart (Q : TP) (G B : Nat) : Prop where
  t : Q.T < B
  p : Q.gp < B
  s : Q.gt < B
  nt : ¬ Q.T = G
  np : ¬ Q.gp = G
  ns : ¬ Q.gt = G
theorem own_ge {w : World} {B size n : Nat} {e : TypeId} {v : Value} {xs : List Value} (h : w.ownsRow B e size v n xs) {b : Nat} (hb : v.ownBlock = some b) : B ≤ b ∧ b < w.heap.size := h.lt b hb
theorem TreeR.ke {w w' : World} {Q : TP} {ps : List Pt} {ss : List (St × Value)} {root win : Int} {G B n : Nat} {ev sv : Value} {gi go : Int} {es : List Ed} {st : List Int} (h : TreeR w Q ps ss root win) (g : GT w G B n ev sv gi go es st) (k : KE G ev sv w w') (a : Apart Q G B) : TreeR w' Q ps ss root win := by
  have key : ∀ b, b < B → ¬ b = G → ¬ (b = G ∨ ev.ownBlock = some b ∨ sv.ownBlock = some b) := by
    rintro b hb hG (e | e | e)
    · exact hG e
    · have := own_ge g.gs.own e; omega
    · have := own_ge g.own2 e; omega
  exact h.kp k (key _ a.t a.nt) (key _ a.p a.np) (key _ a.s a.ns)
/-- Where plain and spread stand. -/
structure PlSt (w0 wk : World) (Q : TP) (ps : List Pt) (ss : List (St × Value)) (root win : Int) (G B n : Nat) (ev sv : Value) (gi go : Int) (es : List Ed) (st : List Int) (N1 N2 : Nat) (ev0 sv0 : Value) (X : Nat) (x : Pt) : Prop where
  tr : TreeR wk Q ps ss root win
  gt : GT wk G B n ev sv gi go es st
  s1 : ∀ y ∈ es, y.st < N1
  s2 : ∀ y ∈ st, 0 ≤ y ∧ y < N2
  pc : PC wk X x
  kg : KE G ev0 sv0 w0 wk
  ow : Own w0 ev0 ev
  ow2 : Own w0 sv0 sv
  nX : ¬ ev.ownBlock = some X
  nX2 : ¬ sv.ownBlock = some X
  ap : Apart Q G B
  BX : B ≤ X
theorem PlSt.next {w0 wk w' : World} {Q : TP} {ps : List Pt} {ss : List (St × Value)} {root win : Int} {G B n n' : Nat} {ev sv ev' sv' : Value} {gi go : Int} {es es' : List Ed} {st st' : List Int} {N1 N2 : Nat} {ev0 sv0 : Value} {X : Nat} {x : Pt}
    (h : PlSt w0 wk Q ps ss root win G B n ev sv gi go es st N1 N2 ev0 sv0 X x) (g : GT w' G B n' ev' sv' gi go es' st') (s1 : ∀ y ∈ es', y.st < N1) (s2 : ∀ y ∈ st', 0 ≤ y ∧ y < N2) (k : KE G ev sv wk w') (o : Own wk ev ev') (o2 : Own wk sv sv') :
    PlSt w0 w' Q ps ss root win G B n' ev' sv' gi go es' st' N1 N2 ev0 sv0 X x := by
  have hX := h.pc.lt
  refine ⟨h.tr.ke h.gt k h.ap, g, s1, s2, h.pc.kp k ?_, h.kg.trans h.ow h.ow2 k, h.ow.trans h.kg.size o, h.ow2.trans h.kg.size o2, ?_, ?_, h.ap, h.BX⟩
  · rintro (e | e | e)
    · have := h.gt.gs.hG; have := h.BX; omega
    · exact h.nX e
    · exact h.nX2 e
  · intro e
    rcases o X e with e | e
    · exact h.nX e
    · omega
  · intro e
    rcases o2 X e with e | e
    · exact h.nX2 e
    · omega
theorem PlSt.point {w0 wk w' : World} {Q : TP} {ps : List Pt} {ss : List (St × Value)} {root win : Int} {G B n : Nat} {ev sv : Value} {gi go : Int} {es : List Ed} {st : List Int} {N1 N2 : Nat} {ev0 sv0 : Value} {X : Nat} {x : Pt}
    (h : PlSt w0 wk Q ps ss root win G B n ev sv gi go es st N1 N2 ev0 sv0 X x) (e : w' = wk.setCell ⟨G, 0, none⟩ (.int .i64 ((n + 1 : Nat) : Int))) : PlSt w0 w' Q ps ss root win G B (n + 1) ev sv gi go es st N1 N2 ev0 sv0 X x := by
  subst e
  exact h.next h.gt.point h.s1 h.s2 ((Kp.refl _ _).setCell (p := ⟨G, 0, none⟩) (Or.inr (Or.inl rfl)) _) (Own.refl _ _) (Own.refl _ _)
theorem PlSt.new {w : World} {Q : TP} {ps : List Pt} {ss : List (St × Value)} {root win : Int} {G B n : Nat} {ev sv : Value} {gi go : Int} {es : List Ed} {st : List Int} {N1 N2 : Nat} (x : Pt)
    (t : TreeR w Q ps ss root win) (g : GT w G B n ev sv gi go es st) (s1 : ∀ y ∈ es, y.st < N1) (s2 : ∀ y ∈ st, 0 ≤ y ∧ y < N2) (a : Apart Q G B) :
    PlSt w (w.alloc (.cells #[.int .i64 x.op, .int .i64 x.left, .int .i64 x.right, .int .i64 x.low, .int .i64 x.high, .int .i64 x.step] 303)) Q ps ss root win G B n ev sv gi go es st N1 N2 ev sv w.heap.size x := by
  have k : Nw w (w.alloc (.cells #[.int .i64 x.op, .int .i64 x.left, .int .i64 x.right, .int .i64 x.low, .int .i64 x.high, .int .i64 x.step] 303)) := (Kp.refl _ w).alloc _
  refine ⟨t.nw k, g.nw k, s1, s2, PC.new w x, (Kp.refl _ w).alloc _, Own.refl _ _, Own.refl _ _, ?_, ?_, a, g.gs.hB⟩
  · intro e; have := own_ge g.gs.own e; omega
  · intro e; have := own_ge g.own2 e; omega
/-- What plain and spread leave. -/
def GPost (G B : Nat) (gi go : Int) (N1 N2 n : Nat) (ev sv : Value) (ne ns nb bud lgb : Nat) (w : World) (e : Ending) (w' : World) : Prop :=
  e = .returned (.tuple #[]) ∧ ∃ n' ev' sv' es' st', GT w' G B n' ev' sv' gi go es' st' ∧ (∀ y ∈ es', y.st < N1) ∧ (∀ y ∈ st', 0 ≤ y ∧ y < N2) ∧ n ≤ n' ∧ n' ≤ n + nb ∧ es'.length ≤ ne + bud ∧ st'.length ≤ ns + lgb ∧ KE G ev sv w w' ∧ Own w ev ev' ∧ Own w sv sv'
theorem PlSt.post {w0 wk : World} {Q : TP} {ps : List Pt} {ss : List (St × Value)} {root win : Int} {G B n n0 ne ns nb bud lgb : Nat} {ev sv : Value} {gi go : Int} {es : List Ed} {st : List Int} {N1 N2 : Nat} {ev0 sv0 : Value} {X : Nat} {x : Pt}
    (h : PlSt w0 wk Q ps ss root win G B n ev sv gi go es st N1 N2 ev0 sv0 X x) (h1 : n0 ≤ n) (h2 : n ≤ n0 + nb) (h3 : es.length ≤ ne + bud) (h4 : st.length ≤ ns + lgb) : GPost G B gi go N1 N2 n0 ev0 sv0 ne ns nb bud lgb w0 (.returned (.tuple #[])) wk :=
  ⟨rfl, n, ev, sv, es, st, h.gt, h.s1, h.s2, h1, h2, h3, h4, h.kg, h.ow, h.ow2⟩
theorem st_snoc {es : List Ed} {N1 : Nat} {e : Ed} (h : ∀ y ∈ es, y.st < N1) (he : e.st < N1) : ∀ y ∈ es ++ [e], y.st < N1 := by
  intro y hy
  rcases List.mem_append.1 hy with e1 | e1
  · exact h y e1
  · simp at e1; subst e1; exact he
theorem freeT_any (G B n : Nat) (ev sv : Value) (gi go : Int) (es : List Ed) (st : List Int) (N1 N2 : Nat) (fr to : Int) (w : World) (h : GT w G B n ev sv gi go es st) (hn : es.length < 100000) (hf : 0 ≤ fr ∧ fr < n) (ht : 0 ≤ to ∧ to < n) (s1 : ∀ y ∈ es, y.st < N1) (s2 : ∀ y ∈ st, 0 ≤ y ∧ y < N2) :
    Calls Tryz.prog 189 #[.pointer (some ⟨G, 0, none⟩), .int .i64 fr, .int .i64 to] w (GPost G B gi go N1 N2 n ev sv es.length st.length 0 1 0 w) := by
  refine (free_any G B n ev sv gi go es fr to w h.gs hn hf ht).mono ?_
  rintro e w' ⟨rfl, ev', g, k, o⟩
  exact ⟨rfl, n, ev', sv, _, st, h.free g k, st_snoc s1 (by simp; omega), s2, Nat.le_refl _, by omega, by simp, by omega, k.ke sv, o, Own.refl _ _⟩
set_option maxRecDepth 100000 in
set_option maxHeartbeats 1000000 in
theorem round_any (G B n : Nat) (ev sv : Value) (gi go : Int) (es : List Ed) (st : List Int) (N1 N2 : Nat) (fr to : Int) (x : Pt) (w : World) (h : GT w G B n ev sv gi go es st) (hn : es.length + 2 ≤ 100000) (hf : 0 ≤ fr ∧ fr < n) (ht : 0 ≤ to ∧ to < n) (s1 : ∀ y ∈ es, y.st < N1) (s2 : ∀ y ∈ st, 0 ≤ y ∧ y < N2) :
    Calls Tryz.prog 190 #[.pointer (some ⟨G, 0, none⟩), .int .i64 fr, .int .i64 to, ptV x] w (GPost G B gi go N1 N2 n ev sv es.length st.length 0 2 0 w) := by
  obtain ⟨op, left, right, low, high, step⟩ := x
  unfold ptV
  have H1 : Hid (∀ ob, GT (w.alloc ob) G B n ev sv gi go es st) := fun ob => h.nw ((Kp.refl _ w).alloc ob)
  have HF : Hid (∀ W (ev : Value) (es : List Ed), GT W G B n ev sv gi go es st → es.length < 100000 → (∀ y ∈ es, y.st < N1) → Calls Tryz.prog 189 #[.pointer (some ⟨G, 0, none⟩), .int .i64 to, .int .i64 fr] W (GPost G B gi go N1 N2 n ev sv es.length st.length 0 1 0 W)) := fun W ev es g hl s => freeT_any G B n ev sv gi go es st N1 N2 to fr W g hl ht hf s s2
  have HT : Hid (∀ W (ev sv : Value) (es : List Ed) (st : List Int), GT W G B n ev sv gi go es st → es.length < 100000 → (∀ y ∈ es, y.st < N1) → (∀ y ∈ st, 0 ≤ y ∧ y < N2) → Calls Tryz.prog 189 #[.pointer (some ⟨G, 0, none⟩), .int .i64 fr, .int .i64 to] W (GPost G B gi go N1 N2 n ev sv es.length st.length 0 1 0 W)) := fun W ev sv es st g hl s s2 => freeT_any G B n ev sv gi go es st N1 N2 fr to W g hl hf ht s s2
  have S1 : Hid (∀ y ∈ es, y.st < N1) := s1
  have S2 : Hid (∀ y ∈ st, 0 ≤ y ∧ y < N2) := s2
  have HX : Hid (¬ ev.ownBlock = some w.heap.size ∧ ¬ sv.ownBlock = some w.heap.size ∧ G < w.heap.size) := by
    refine ⟨?_, ?_, ?_⟩
    · intro e; have := own_ge h.gs.own e; omega
    · intro e; have := own_ge h.own2 e; omega
    · have := h.gs.hG; have := h.gs.hB; omega
  have hGX : G < w.heap.size := HX.out.2.2
  clear h hf ht s1 s2
  by_cases hh : high = 1
  · have hh' : (high != 1) = false := by simp [hh]
    by_cases hl : low = 0
    · have hl' : (low == 0) = true := by simp [hl]
      clear hh hl
      go_enter Tryz.func190, Tryz.ntmps190
      go_wp2_with fail
      refine (HT.out _ ev sv es st (H1.out _) (by omega) S1.out S2.out).mono ?_
      rintro e w1 ⟨rfl, n1, ev1, sv1, es1, st1, g1, q1, q2, a1, a2, a3, a4, k1, o1, o2⟩
      have KK : Hid (GPost G B gi go N1 N2 n ev sv es.length st.length 0 2 0 w (.returned (.tuple #[])) w1) := ⟨rfl, n1, ev1, sv1, es1, st1, g1, q1, q2, a1, by omega, by omega, a4, ((Kp.refl _ w).alloc _).trans k1, (Own.refl w ev).trans (by simp) o1, (Own.refl w sv).trans (by simp) o2⟩
      clear k1 o1 o2 g1 q1 q2
      go_wp2
      go_end0
      exact KK.out
    · have hl' : (low == 0) = false := by simp [hl]
      clear hh hl
      go_enter Tryz.func190, Tryz.ntmps190
      go_wp2
      go_end0
      exact ⟨rfl, n, ev, sv, es, st, H1.out _, S1.out, S2.out, Nat.le_refl _, by omega, by omega, by omega, (Kp.refl _ w).alloc _, Own.refl _ _, Own.refl _ _⟩
  · have hh' : (high != 1) = true := by simp [hh]
    clear hh
    go_enter Tryz.func190, Tryz.ntmps190
    go_wp2_with fail
    refine (HF.out _ ev es (H1.out _) (by omega) S1.out).mono ?_
    rintro e w1 ⟨rfl, n1, ev1, sv1, es1, st1, g1, q1, q2, a1, a2, a3, a4, k1, o1, o2⟩
    obtain ⟨m1, kc⟩ : w.heap.size < w1.heap.size ∧ w1.cell? ⟨w.heap.size, 3, none⟩ = some (.int .i64 low) := by
      refine ⟨by have := k1.size; simp at this; omega, ?_⟩
      rw [k1.cell (p := ⟨w.heap.size, 3, none⟩) (by simp) (by
        rintro (e | e | e)
        · simp only at e; omega
        · exact HX.out.1 e
        · exact HX.out.2.1 e)]
      simp [go_sem]
    have hsz : (w.alloc (.cells #[.int .i64 op, .int .i64 left, .int .i64 right, .int .i64 low, .int .i64 high, .int .i64 step] 303)).heap.size = w.heap.size + 1 := by simp
    have K1 : Hid (KE G ev sv w w1) := ((Kp.refl _ w).alloc _).trans k1
    have O1 : Hid (Own w ev ev1) := (Own.refl w ev).trans (by omega) o1
    have O2 : Hid (Own w sv sv1) := (Own.refl w sv).trans (by omega) o2
    have G1 : Hid (GT w1 G B n1 ev1 sv1 gi go es1 st1) := g1
    have Q1 : Hid (∀ y ∈ es1, y.st < N1) := q1
    have Q2 : Hid (∀ y ∈ st1, 0 ≤ y ∧ y < N2) := q2
    obtain rfl : n1 = n := by omega
    clear k1 o1 o2 g1 q1 q2 hsz
    by_cases hl : low = 0
    · have hl' : (low == 0) = true := by simp [hl]
      clear hl
      go_wp2_with fail
      refine (HT.out w1 ev1 sv1 es1 st1 G1.out (by omega) Q1.out Q2.out).mono ?_
      rintro e w2 ⟨rfl, n2, ev2, sv2, es2, st2, g2, q1, q2, b1, b2, b3, b4, k2, o1, o2⟩
      have KK : Hid (GPost G B gi go N1 N2 n1 ev sv es.length st.length 0 2 0 w (.returned (.tuple #[])) w2) := ⟨rfl, n2, ev2, sv2, es2, st2, g2, q1, q2, b1, by omega, by omega, by omega, K1.out.trans O1.out O2.out k2, O1.out.trans (by omega) o1, O2.out.trans (by omega) o2⟩
      clear k2 o1 o2 g2 q1 q2
      go_wp2
      go_end0
      exact KK.out
    · have hl' : (low == 0) = false := by simp [hl]
      clear hl
      go_wp2
      go_end0
      exact ⟨rfl, n1, ev1, sv1, es1, st1, G1.out, Q1.out, Q2.out, Nat.le_refl _, by omega, by omega, by omega, K1.out, O1.out, O2.out⟩
end Go.Proofs.YtcboiapggnmpfaaGreat

namespace Go.Proofs.YtcboiapggnmpfaaGreat
open Go.RowKit
set_option linter.unusedSimpArgs false
set_option linter.unusedVariables false

theorem PlSt.at {w0 wk w' : World} {Q : TP} {ps : List Pt} {ss : List (St × Value)} {root win : Int} {G B n : Nat} {ev sv : Value} {gi go : Int} {es : List Ed} {st : List Int} {N1 N2 : Nat} {ev0 sv0 : Value} {X : Nat} {x : Pt} {e : Ending} {nb bud lgb : Nat}
    (h : PlSt w0 wk Q ps ss root win G B n ev sv gi go es st N1 N2 ev0 sv0 X x) (p : GPost G B gi go N1 N2 n ev sv es.length st.length nb bud lgb wk e w') :
    e = .returned (.tuple #[]) ∧ ∃ n' ev' sv' es' st', PlSt w0 w' Q ps ss root win G B n' ev' sv' gi go es' st' N1 N2 ev0 sv0 X x ∧ n ≤ n' ∧ n' ≤ n + nb ∧ es'.length ≤ es.length + bud ∧ st'.length ≤ st.length + lgb := by
  obtain ⟨he, n', ev', sv', es', st', g, a1, a2, b1, b2, b3, b4, k, o1, o2⟩ := p
  exact ⟨he, n', ev', sv', es', st', h.next g a1 a2 k o1 o2, b1, b2, b3, b4⟩
set_option maxRecDepth 100000 in
set_option maxHeartbeats 4000000 in
theorem plainOne (Q : TP) (ps : List Pt) (ss : List (St × Value)) (root win : Int) (G B n : Nat) (ev sv : Value) (gi go : Int) (es : List Ed) (st : List Int) (N1 N2 : Nat) (fr to : Int) (i : Nat) (left right low high step : Int) (w : World)
    (ht : TreeR w Q ps ss root win) (h : GT w G B n ev sv gi go es st) (hx : ps[i]? = some ⟨0, left, right, low, high, step⟩) (s1 : ∀ y ∈ es, y.st < N1) (s2 : ∀ y ∈ st, 0 ≤ y ∧ y < N2) (hf : 0 ≤ fr ∧ fr < n) (hto : 0 ≤ to ∧ to < n) (hn : es.length + 1 ≤ 100000) (hst : step < N1) :
    Calls Tryz.prog 150 #[.pointer (some ⟨G, 0, none⟩), .pointer (some ⟨Q.T, 0, none⟩), .int .i64 i, .int .i64 fr, .int .i64 to] w (GPost G B gi go N1 N2 n ev sv es.length st.length 1 1 0 w) := by
  have hil := (List.getElem?_eq_some_iff.1 hx).1
  obtain ⟨d0, d1, d2, d3, d4, d5⟩ := ht.part i _ hx
  have c0 := ht.c0
  have hT := ht.ltT
  have hp := ht.ltp
  have hnp := ht.np
  have H : Hid (GT w G B n ev sv gi go es st) := h
  have hl := h.gs.gr.lt
  have g1 := h.gs.gr.c1
  have fz := h.gs.gr.fz
  have hown := h.gs.own
  have hG := h.gs.hG
  have hB := h.gs.hB
  obtain ⟨T, gp, cp, gt, ct⟩ := Q
  simp only at c0 hT hp d0 d1 d2 d3 d4 d5
  have hn1 : ¬ T = w.heap.size := by omega
  have hn2 : ¬ gp = w.heap.size := by omega
  have hn3 : ¬ G = w.heap.size := by omega
  have hn4 : ¬ w.heap.size = G := by omega
  have hn5 : ¬ G = w.heap.size + 1 := by omega
  obtain ⟨i0, hi0, hz0, hz1, hz2⟩ := info_parts Tryz.info179
  have hge : Hid (∀ b, ev.ownBlock = some b → B ≤ b ∧ b < w.heap.size) := fun b hb => hown.lt b hb
  have hGn : ¬ some G = ev.ownBlock := by intro e; have := hge.out G e.symm; omega
  have S1 : Hid (∀ y ∈ es, y.st < N1) := s1
  have S2 : Hid (∀ y ∈ st, 0 ≤ y ∧ y < N2) := s2
  have HST : Hid (step < N1) := hst
  clear ht h hx s1 s2 hst
  go_enter Tryz.func150, Tryz.ntmps150
  go_wp2
  go_region_law
    ((refine step_append_lies _ (by rfl) _ _ _ (by rfl) B 179 i0 (.agg #[.int .i64 0, .int .i64 0, .int .i64 0]) 3 24 Tryz.underlying168 hi0 hz0 hz1 hz2 rfl (by omega) ev es.length (edsC es) (by rfl) (by exact (hown.alloc _).alloc _) ⟨w.heap.size + 1, 0, none⟩ 1 1 [.int .i64 fr, .int .i64 to, .int .i64 step] (by rfl) (by rfl) (by exact news_snd w _ _ _) (by exact edC_one ⟨fr, to, step⟩) (by omega) (by unfold maxLen; omega) (by omega) (by simp; omega) (w.heap.size + 2) (by simp) ?_; intro g cap w1 hown1 hgrow hat hlt; have kG : ∀ o, w1.cell? ⟨G, o, none⟩ = w.cell? ⟨G, o, none⟩ := (fun o => (hgrow.cell_far _ (by simp; omega) hGn).trans (by simp [go_sem, hl, World.cell?_alloc_past])); have kz : ∀ o, w1.frozen? ⟨G, o, none⟩ = w.frozen? ⟨G, o, none⟩ := (fun o => (hgrow.frozen_far _ (by simp; omega) hGn).trans (by simp [go_sem, hl, World.frozen?_alloc_past]))))
  all_goals
    have K1 : Hid (KG G ev w w1) := ((((Kp.refl _ w).alloc _).alloc _).drew).grown hgrow (fun b hb => Or.inr (Or.inr hb))
    have G1 : Hid (Gr w1 G n ev sv gi go) := H.out.gs.gr.sm ⟨kG, kz⟩
    have O1 : Hid (w1.ownsRow B 179 3 (.slice (some ⟨g, 0, none⟩) (es.length + 1) cap) (es ++ [(⟨fr, to, step⟩ : Ed)]).length (edsC (es ++ [(⟨fr, to, step⟩ : Ed)]))) := by
      have e1 : (es ++ [(⟨fr, to, step⟩ : Ed)]).length = es.length + 1 := by simp
      have e2 : edsC (es ++ [(⟨fr, to, step⟩ : Ed)]) = edsC es ++ edC ⟨fr, to, step⟩ := by simp [edsC]
      show w1.ownsRow _ _ _ _ _ _
      rw [e1, e2]; exact hown1
    have OW : Hid (Own w ev (.slice (some ⟨g, 0, none⟩) (es.length + 1) cap)) := by
      intro b hb
      simp [Value.ownBlock] at hb
      subst hb
      rcases hat with e | e
      · exact Or.inl e
      · exact Or.inr (by omega)
    clear hown1 hgrow hat
    go_wp2
    go_end0
    have K2 : KG G ev w (w1.setCell ⟨G, 1, none⟩ (.slice (some ⟨g, 0, none⟩) (es.length + 1) cap)) := K1.out.setCell (p := ⟨G, 1, none⟩) (Or.inr (Or.inl rfl)) _
    have g2 : GS (w1.setCell ⟨G, 1, none⟩ (.slice (some ⟨g, 0, none⟩) (es.length + 1) cap)) G B n (.slice (some ⟨g, 0, none⟩) (es.length + 1) cap) sv gi go (es ++ [⟨fr, to, step⟩]) := by
      refine ⟨G1.out.set1 _, ownsRow_setCell_below O1.out (a := ⟨G, 1, none⟩) hG _, hG, Nat.le_trans hB K2.size, by simp; omega, ?_⟩
      intro e he
      rcases List.mem_append.1 he with he | he
      · exact H.out.gs.ok e he
      · simp at he; subst he; exact ⟨hf.1, hf.2, hto.1, hto.2⟩
    exact ⟨rfl, n, _, sv, _, st, H.out.free g2 K2, st_snoc S1.out HST.out, S2.out, Nat.le_refl _, by omega, by simp, by omega, K2.ke sv, OW.out, Own.refl _ _⟩
/-- What is asked of plain at part nl. -/
def PlainOk (fid : Nat) (Q : TP) (ps : List Pt) (ss : List (St × Value)) (root win : Int) (G B : Nat) (gi go : Int) (N1 N2 nl N M : Nat) : Prop :=
  ∀ (n : Nat) (ev sv : Value) (es : List Ed) (st : List Int) (fr to : Int) (w : World), TreeR w Q ps ss root win → GT w G B n ev sv gi go es st → (∀ y ∈ es, y.st < N1) → (∀ y ∈ st, 0 ≤ y ∧ y < N2) → 0 ≤ fr ∧ fr < n → 0 ≤ to ∧ to < n → n + N ≤ 100000 → es.length + N ≤ 100000 → st.length + M ≤ 100000 →
    Calls Tryz.prog fid #[.pointer (some ⟨G, 0, none⟩), .pointer (some ⟨Q.T, 0, none⟩), .int .i64 nl, .int .i64 fr, .int .i64 to] w (GPost G B gi go N1 N2 n ev sv es.length st.length N N M w)
set_option maxRecDepth 100000 in
set_option maxHeartbeats 4000000 in
theorem plainRounds (Q : TP) (ps : List Pt) (ss : List (St × Value)) (root win : Int) (G B n : Nat) (ev sv : Value) (gi go : Int) (es : List Ed) (st : List Int) (N1 N2 : Nat) (fr to : Int) (i nl N : Nat) (right low high step : Int) (w : World) (ha : Apart Q G B)
    (ht : TreeR w Q ps ss root win) (h : GT w G B n ev sv gi go es st) (hx : ps[i]? = some ⟨3, nl, right, low, high, step⟩) (s1 : ∀ y ∈ es, y.st < N1) (s2 : ∀ y ∈ st, 0 ≤ y ∧ y < N2) (hf : 0 ≤ fr ∧ fr < n) (hto : 0 ≤ to ∧ to < n) (hn : n + (N + 5) ≤ 100000) (he : es.length + (N + 5) ≤ 100000) (hs : st.length ≤ 100000)
    (hI : PlainOk 150 Q ps ss root win G B gi go N1 N2 nl N 0) :
    Calls Tryz.prog 150 #[.pointer (some ⟨G, 0, none⟩), .pointer (some ⟨Q.T, 0, none⟩), .int .i64 i, .int .i64 fr, .int .i64 to] w (GPost G B gi go N1 N2 n ev sv es.length st.length (N + 5) (N + 5) 0 w) := by
  have hil := (List.getElem?_eq_some_iff.1 hx).1
  obtain ⟨d0, d1, d2, d3, d4, d5⟩ := ht.part i _ hx
  have c0 := ht.c0
  have hT := ht.ltT
  have hp := ht.ltp
  have hnp := ht.np
  have hl := h.gs.gr.lt
  have S0 : Hid (PlSt w _ Q ps ss root win G B n ev sv gi go es st N1 N2 ev sv w.heap.size ⟨3, nl, right, low, high, step⟩) := PlSt.new ⟨3, nl, right, low, high, step⟩ ht h s1 s2 ha
  obtain ⟨T, gp, cp, gt, ct⟩ := Q
  simp only at c0 hT hp d0 d1 d2 d3 d4 d5
  have hn1 : ¬ T = w.heap.size := by omega
  have hn2 : ¬ gp = w.heap.size := by omega
  have hn3 : ¬ G = w.heap.size := by omega
  have hn4 : ¬ w.heap.size = G := by omega
  have HI : Hid (PlainOk 150 ⟨T, gp, cp, gt, ct⟩ ps ss root win G B gi go N1 N2 nl N 0) := hI
  have HF : Hid (0 ≤ fr ∧ fr < n) := hf
  have HT : Hid (0 ≤ to ∧ to < n) := hto
  clear ht h hx s1 s2 hI hf hto
  go_enter Tryz.func150, Tryz.ntmps150
  go_wp2_with fail
  refine (point_any G n ev sv gi go _ S0.out.gt.gs.gr (by omega)).mono ?_
  rintro e w1 ⟨rfl, hw1⟩
  have S1 : Hid (PlSt w w1 ⟨T, gp, cp, gt, ct⟩ ps ss root win G B (n + 1) ev sv gi go es st N1 N2 ev sv w.heap.size ⟨3, nl, right, low, high, step⟩) := S0.out.point hw1
  clear hw1 c0 d0 d1 d2 d3 d4 d5
  have p1 := S1.out.pc
  have z10 := p1.c0
  have z11 := p1.c1
  have z12 := p1.c2
  have z13 := p1.c3
  have z14 := p1.c4
  have z15 := p1.c5
  simp only at z10 z11 z12 z13 z14 z15
  clear p1
  go_wp2_with fail
  refine (point_any G (n + 1) ev sv gi go _ S1.out.gt.gs.gr (by omega)).mono ?_
  rintro e w2 ⟨rfl, hw2⟩
  have S2 : Hid (PlSt w w2 ⟨T, gp, cp, gt, ct⟩ ps ss root win G B (n + 2) ev sv gi go es st N1 N2 ev sv w.heap.size ⟨3, nl, right, low, high, step⟩) := S1.out.point hw2
  clear hw2
  clear z10 z11 z12 z13 z14 z15
  have p2 := S2.out.pc
  have z20 := p2.c0
  have z21 := p2.c1
  have z22 := p2.c2
  have z23 := p2.c3
  have z24 := p2.c4
  have z25 := p2.c5
  simp only at z20 z21 z22 z23 z24 z25
  clear p2
  go_wp2_with fail
  refine (freeT_any G B (n + 2) ev sv gi go es st N1 N2 fr (n : Int) w2 S2.out.gt (by omega) (by have := HF.out; omega) (by omega) S2.out.s1 S2.out.s2).mono ?_
  intro e w3 hP
  obtain ⟨he, n3, ev3, sv3, es3, st3, s3, b1, b2, b3, b4⟩ := S2.out.at hP
  subst he
  have S3 : Hid (PlSt w w3 ⟨T, gp, cp, gt, ct⟩ ps ss root win G B n3 ev3 sv3 gi go es3 st3 N1 N2 ev sv w.heap.size ⟨3, nl, right, low, high, step⟩) := s3
  have q31 := b1
  have q32 := b2
  have q33 := b3
  have q34 := b4
  have p3 := S3.out.pc
  have z30 := p3.c0
  have z31 := p3.c1
  have z32 := p3.c2
  have z33 := p3.c3
  have z34 := p3.c4
  have z35 := p3.c5
  simp only at z30 z31 z32 z33 z34 z35
  clear hP s3 b1 b2 b3 b4 p3
  clear z20 z21 z22 z23 z24 z25
  go_wp2_with fail
  refine (freeT_any G B n3 ev3 sv3 gi go es3 st3 N1 N2 ((n + 1 : Nat) : Int) to w3 S3.out.gt (by omega) (by omega) (by have := HT.out; omega) S3.out.s1 S3.out.s2).mono ?_
  intro e w4 hP
  obtain ⟨he, n4, ev4, sv4, es4, st4, s4, b1, b2, b3, b4⟩ := S3.out.at hP
  subst he
  have S4 : Hid (PlSt w w4 ⟨T, gp, cp, gt, ct⟩ ps ss root win G B n4 ev4 sv4 gi go es4 st4 N1 N2 ev sv w.heap.size ⟨3, nl, right, low, high, step⟩) := s4
  have q41 := b1
  have q42 := b2
  have q43 := b3
  have q44 := b4
  have p4 := S4.out.pc
  have z40 := p4.c0
  have z41 := p4.c1
  have z42 := p4.c2
  have z43 := p4.c3
  have z44 := p4.c4
  have z45 := p4.c5
  simp only at z40 z41 z42 z43 z44 z45
  clear hP s4 b1 b2 b3 b4 p4
  clear z30 z31 z32 z33 z34 z35
  go_wp2_with fail
  refine (round_any G B n4 ev4 sv4 gi go es4 st4 N1 N2 (n : Int) ((n + 1 : Nat) : Int) ⟨3, nl, right, low, high, step⟩ w4 S4.out.gt (by omega) (by omega) (by omega) S4.out.s1 S4.out.s2).mono ?_
  intro e w5 hP
  obtain ⟨he, n5, ev5, sv5, es5, st5, s5, b1, b2, b3, b4⟩ := S4.out.at hP
  subst he
  have S5 : Hid (PlSt w w5 ⟨T, gp, cp, gt, ct⟩ ps ss root win G B n5 ev5 sv5 gi go es5 st5 N1 N2 ev sv w.heap.size ⟨3, nl, right, low, high, step⟩) := s5
  have q51 := b1
  have q52 := b2
  have q53 := b3
  have q54 := b4
  have p5 := S5.out.pc
  have z50 := p5.c0
  have z51 := p5.c1
  have z52 := p5.c2
  have z53 := p5.c3
  have z54 := p5.c4
  have z55 := p5.c5
  simp only at z50 z51 z52 z53 z54 z55
  clear hP s5 b1 b2 b3 b4 p5
  clear z40 z41 z42 z43 z44 z45
  go_wp2_with fail
  refine (HI.out n5 ev5 sv5 es5 st5 (n : Int) ((n + 1 : Nat) : Int) w5 S5.out.tr S5.out.gt S5.out.s1 S5.out.s2 (by omega) (by omega) (by omega) (by omega) (by omega)).mono ?_
  intro e w6 hP
  obtain ⟨he, n6, ev6, sv6, es6, st6, s6, b1, b2, b3, b4⟩ := S5.out.at hP
  subst he
  have S6 : Hid (PlSt w w6 ⟨T, gp, cp, gt, ct⟩ ps ss root win G B n6 ev6 sv6 gi go es6 st6 N1 N2 ev sv w.heap.size ⟨3, nl, right, low, high, step⟩) := s6
  have q61 := b1
  have q62 := b2
  have q63 := b3
  have q64 := b4
  have p6 := S6.out.pc
  have z60 := p6.c0
  have z61 := p6.c1
  have z62 := p6.c2
  have z63 := p6.c3
  have z64 := p6.c4
  have z65 := p6.c5
  simp only at z60 z61 z62 z63 z64 z65
  clear hP s6 b1 b2 b3 b4 p6
  clear z50 z51 z52 z53 z54 z55
  go_wp2
  go_end0
  exact S6.out.post (by omega) (by omega) (by omega) (by omega)
set_option maxRecDepth 100000 in
set_option maxHeartbeats 4000000 in
theorem plainTwo1 (Q : TP) (ps : List Pt) (ss : List (St × Value)) (root win : Int) (G B n : Nat) (ev sv : Value) (gi go : Int) (es : List Ed) (st : List Int) (N1 N2 : Nat) (fr to : Int) (i nl nr N M : Nat) (low high step : Int) (w : World) (ha : Apart Q G B)
    (ht : TreeR w Q ps ss root win) (h : GT w G B n ev sv gi go es st) (hx : ps[i]? = some ⟨1, nl, nr, low, high, step⟩) (s1 : ∀ y ∈ es, y.st < N1) (s2 : ∀ y ∈ st, 0 ≤ y ∧ y < N2) (hf : 0 ≤ fr ∧ fr < n) (hto : 0 ≤ to ∧ to < n) (hn : n + (N + M + 1) ≤ 100000) (he : es.length + (N + M + 1) ≤ 100000) (hs : st.length ≤ 100000)
    (hI : PlainOk 150 Q ps ss root win G B gi go N1 N2 nl N 0) (hJ : PlainOk 150 Q ps ss root win G B gi go N1 N2 nr M 0) :
    Calls Tryz.prog 150 #[.pointer (some ⟨G, 0, none⟩), .pointer (some ⟨Q.T, 0, none⟩), .int .i64 i, .int .i64 fr, .int .i64 to] w (GPost G B gi go N1 N2 n ev sv es.length st.length (N + M + 1) (N + M + 1) 0 w) := by
  have hil := (List.getElem?_eq_some_iff.1 hx).1
  obtain ⟨d0, d1, d2, d3, d4, d5⟩ := ht.part i _ hx
  have c0 := ht.c0
  have hT := ht.ltT
  have hp := ht.ltp
  have hnp := ht.np
  have hl := h.gs.gr.lt
  have S0 : Hid (PlSt w _ Q ps ss root win G B n ev sv gi go es st N1 N2 ev sv w.heap.size ⟨1, nl, nr, low, high, step⟩) := PlSt.new ⟨1, nl, nr, low, high, step⟩ ht h s1 s2 ha
  obtain ⟨T, gp, cp, gt, ct⟩ := Q
  simp only at c0 hT hp d0 d1 d2 d3 d4 d5
  have hn1 : ¬ T = w.heap.size := by omega
  have hn2 : ¬ gp = w.heap.size := by omega
  have hn3 : ¬ G = w.heap.size := by omega
  have hn4 : ¬ w.heap.size = G := by omega
  have HI : Hid (PlainOk 150 ⟨T, gp, cp, gt, ct⟩ ps ss root win G B gi go N1 N2 nl N 0) := hI
  have HJ : Hid (PlainOk 150 ⟨T, gp, cp, gt, ct⟩ ps ss root win G B gi go N1 N2 nr M 0) := hJ
  have HF : Hid (0 ≤ fr ∧ fr < n) := hf
  have HT : Hid (0 ≤ to ∧ to < n) := hto
  clear ht h hx s1 s2 hI hJ hf hto
  go_enter Tryz.func150, Tryz.ntmps150
  go_wp2_with fail
  refine (point_any G n ev sv gi go _ S0.out.gt.gs.gr (by omega)).mono ?_
  rintro e w1 ⟨rfl, hw1⟩
  have S1 : Hid (PlSt w w1 ⟨T, gp, cp, gt, ct⟩ ps ss root win G B (n + 1) ev sv gi go es st N1 N2 ev sv w.heap.size ⟨1, nl, nr, low, high, step⟩) := S0.out.point hw1
  clear hw1 c0 d0 d1 d2 d3 d4 d5
  have p1 := S1.out.pc
  have z10 := p1.c0
  have z11 := p1.c1
  have z12 := p1.c2
  have z13 := p1.c3
  have z14 := p1.c4
  have z15 := p1.c5
  simp only at z10 z11 z12 z13 z14 z15
  clear p1
  go_wp2_with fail
  refine (HI.out (n + 1) ev sv es st fr (n : Int) w1 S1.out.tr S1.out.gt S1.out.s1 S1.out.s2 (by have := HF.out; omega) (by omega) (by omega) (by omega) (by omega)).mono ?_
  intro e w2 hP
  obtain ⟨he, n2, ev2, sv2, es2, st2, s2, b1, b2, b3, b4⟩ := S1.out.at hP
  subst he
  have S2 : Hid (PlSt w w2 ⟨T, gp, cp, gt, ct⟩ ps ss root win G B n2 ev2 sv2 gi go es2 st2 N1 N2 ev sv w.heap.size ⟨1, nl, nr, low, high, step⟩) := s2
  have q21 := b1
  have q22 := b2
  have q23 := b3
  have q24 := b4
  have p2 := S2.out.pc
  have z20 := p2.c0
  have z21 := p2.c1
  have z22 := p2.c2
  have z23 := p2.c3
  have z24 := p2.c4
  have z25 := p2.c5
  simp only at z20 z21 z22 z23 z24 z25
  clear hP s2 b1 b2 b3 b4 p2
  clear z10 z11 z12 z13 z14 z15
  go_wp2_with fail
  refine (HJ.out n2 ev2 sv2 es2 st2 (n : Int) to w2 S2.out.tr S2.out.gt S2.out.s1 S2.out.s2 (by omega) (by have := HT.out; omega) (by omega) (by omega) (by omega)).mono ?_
  intro e w3 hP
  obtain ⟨he, n3, ev3, sv3, es3, st3, s3, b1, b2, b3, b4⟩ := S2.out.at hP
  subst he
  have S3 : Hid (PlSt w w3 ⟨T, gp, cp, gt, ct⟩ ps ss root win G B n3 ev3 sv3 gi go es3 st3 N1 N2 ev sv w.heap.size ⟨1, nl, nr, low, high, step⟩) := s3
  have q31 := b1
  have q32 := b2
  have q33 := b3
  have q34 := b4
  have p3 := S3.out.pc
  have z30 := p3.c0
  have z31 := p3.c1
  have z32 := p3.c2
  have z33 := p3.c3
  have z34 := p3.c4
  have z35 := p3.c5
  simp only at z30 z31 z32 z33 z34 z35
  clear hP s3 b1 b2 b3 b4 p3
  clear z20 z21 z22 z23 z24 z25
  go_wp2
  go_end0
  exact S3.out.post (by omega) (by omega) (by omega) (by omega)
set_option maxRecDepth 100000 in
set_option maxHeartbeats 4000000 in
theorem plainTwo2 (Q : TP) (ps : List Pt) (ss : List (St × Value)) (root win : Int) (G B n : Nat) (ev sv : Value) (gi go : Int) (es : List Ed) (st : List Int) (N1 N2 : Nat) (fr to : Int) (i nl nr N M : Nat) (low high step : Int) (w : World) (ha : Apart Q G B)
    (ht : TreeR w Q ps ss root win) (h : GT w G B n ev sv gi go es st) (hx : ps[i]? = some ⟨2, nl, nr, low, high, step⟩) (s1 : ∀ y ∈ es, y.st < N1) (s2 : ∀ y ∈ st, 0 ≤ y ∧ y < N2) (hf : 0 ≤ fr ∧ fr < n) (hto : 0 ≤ to ∧ to < n) (hn : n + (N + M + 1) ≤ 100000) (he : es.length + (N + M + 1) ≤ 100000) (hs : st.length ≤ 100000)
    (hI : PlainOk 150 Q ps ss root win G B gi go N1 N2 nl N 0) (hJ : PlainOk 150 Q ps ss root win G B gi go N1 N2 nr M 0) :
    Calls Tryz.prog 150 #[.pointer (some ⟨G, 0, none⟩), .pointer (some ⟨Q.T, 0, none⟩), .int .i64 i, .int .i64 fr, .int .i64 to] w (GPost G B gi go N1 N2 n ev sv es.length st.length (N + M + 1) (N + M + 1) 0 w) := by
  have hil := (List.getElem?_eq_some_iff.1 hx).1
  obtain ⟨d0, d1, d2, d3, d4, d5⟩ := ht.part i _ hx
  have c0 := ht.c0
  have hT := ht.ltT
  have hp := ht.ltp
  have hnp := ht.np
  have hl := h.gs.gr.lt
  have S0 : Hid (PlSt w _ Q ps ss root win G B n ev sv gi go es st N1 N2 ev sv w.heap.size ⟨2, nl, nr, low, high, step⟩) := PlSt.new ⟨2, nl, nr, low, high, step⟩ ht h s1 s2 ha
  obtain ⟨T, gp, cp, gt, ct⟩ := Q
  simp only at c0 hT hp d0 d1 d2 d3 d4 d5
  have hn1 : ¬ T = w.heap.size := by omega
  have hn2 : ¬ gp = w.heap.size := by omega
  have hn3 : ¬ G = w.heap.size := by omega
  have hn4 : ¬ w.heap.size = G := by omega
  have HI : Hid (PlainOk 150 ⟨T, gp, cp, gt, ct⟩ ps ss root win G B gi go N1 N2 nl N 0) := hI
  have HJ : Hid (PlainOk 150 ⟨T, gp, cp, gt, ct⟩ ps ss root win G B gi go N1 N2 nr M 0) := hJ
  have HF : Hid (0 ≤ fr ∧ fr < n) := hf
  have HT : Hid (0 ≤ to ∧ to < n) := hto
  clear ht h hx s1 s2 hI hJ hf hto
  go_enter Tryz.func150, Tryz.ntmps150
  go_wp2_with fail
  refine (HI.out n ev sv es st fr to _ S0.out.tr S0.out.gt S0.out.s1 S0.out.s2 HF.out HT.out (by omega) (by omega) (by omega)).mono ?_
  intro e w2 hP
  obtain ⟨he, n2, ev2, sv2, es2, st2, s2, b1, b2, b3, b4⟩ := S0.out.at hP
  subst he
  have S2 : Hid (PlSt w w2 ⟨T, gp, cp, gt, ct⟩ ps ss root win G B n2 ev2 sv2 gi go es2 st2 N1 N2 ev sv w.heap.size ⟨2, nl, nr, low, high, step⟩) := s2
  have q21 := b1
  have q22 := b2
  have q23 := b3
  have q24 := b4
  have p2 := S2.out.pc
  have z20 := p2.c0
  have z21 := p2.c1
  have z22 := p2.c2
  have z23 := p2.c3
  have z24 := p2.c4
  have z25 := p2.c5
  simp only at z20 z21 z22 z23 z24 z25
  clear hP s2 b1 b2 b3 b4 p2
  clear c0 d0 d1 d2 d3 d4 d5
  go_wp2_with fail
  refine (HJ.out n2 ev2 sv2 es2 st2 fr to w2 S2.out.tr S2.out.gt S2.out.s1 S2.out.s2 (by have := HF.out; omega) (by have := HT.out; omega) (by omega) (by omega) (by omega)).mono ?_
  intro e w3 hP
  obtain ⟨he, n3, ev3, sv3, es3, st3, s3, b1, b2, b3, b4⟩ := S2.out.at hP
  subst he
  have S3 : Hid (PlSt w w3 ⟨T, gp, cp, gt, ct⟩ ps ss root win G B n3 ev3 sv3 gi go es3 st3 N1 N2 ev sv w.heap.size ⟨2, nl, nr, low, high, step⟩) := s3
  have q31 := b1
  have q32 := b2
  have q33 := b3
  have q34 := b4
  have p3 := S3.out.pc
  have z30 := p3.c0
  have z31 := p3.c1
  have z32 := p3.c2
  have z33 := p3.c3
  have z34 := p3.c4
  have z35 := p3.c5
  simp only at z30 z31 z32 z33 z34 z35
  clear hP s3 b1 b2 b3 b4 p3
  clear z20 z21 z22 z23 z24 z25
  go_wp2
  go_end0
  exact S3.out.post (by omega) (by omega) (by omega) (by omega)
set_option maxRecDepth 100000 in
set_option maxHeartbeats 4000000 in
theorem plain_any (Q : TP) (ps : List Pt) (ss : List (St × Value)) (root win : Int) (G B : Nat) (gi go : Int) (N1 N2 : Nat) (hwf : WfP ps N1) (ha : Apart Q G B) : ∀ (f i : Nat), i < f → i < ps.length → ∀ (n : Nat) (ev sv : Value) (es : List Ed) (st : List Int) (fr to : Int) (w : World), TreeR w Q ps ss root win → GT w G B n ev sv gi go es st → (∀ y ∈ es, y.st < N1) → (∀ y ∈ st, 0 ≤ y ∧ y < N2) → 0 ≤ fr ∧ fr < n → 0 ≤ to ∧ to < n → n + pg ps f i ≤ 100000 → es.length + pg ps f i ≤ 100000 →
    Calls Tryz.prog 150 #[.pointer (some ⟨G, 0, none⟩), .pointer (some ⟨Q.T, 0, none⟩), .int .i64 i, .int .i64 fr, .int .i64 to] w (GPost G B gi go N1 N2 n ev sv es.length st.length (pg ps f i) (pg ps f i) 0 w) := by
  intro f
  induction f with
  | zero => intro i hi; omega
  | succ f ih =>
    intro i hi hil n ev sv es st fr to w ht h s1 s2 hf hto hn1 hn2
    obtain ⟨x, hx⟩ : ∃ x, ps[i]? = some x := ⟨ps[i], by simp [hil]⟩
    have hw := hwf i x hx
    have hpg : pg ps (f + 1) i = (if x.op = 0 then 1 else if x.op = 3 then pg ps f x.left.toNat + 5 else pg ps f x.left.toNat + pg ps f x.right.toNat + 1) := by simp only [pg, hx]
    rw [hpg] at hn1 hn2 ⊢
    obtain ⟨op, left, right, low, high, step⟩ := x
    simp only at hw hn1 hn2 ⊢
    rcases hw with ⟨rfl, q0, q1⟩ | ⟨rfl, l0, l1, _, _, hh⟩ | ⟨hop, l0, l1, r0, r1⟩
    · exact plainOne Q ps ss root win G B n ev sv gi go es st N1 N2 fr to i left right low high step w ht h hx s1 s2 hf hto hn2 q1
    · obtain ⟨nl, rfl⟩ : ∃ nl : Nat, left = nl := ⟨left.toNat, by omega⟩
      exact plainRounds Q ps ss root win G B n ev sv gi go es st N1 N2 fr to i nl (pg ps f nl) right low high step w ha ht h hx s1 s2 hf hto hn1 hn2 h.ne2 (fun n ev sv es st fr to w a b c d e g k l _ => ih nl (by omega) (by omega) n ev sv es st fr to w a b c d e g k l)
    · obtain ⟨nl, rfl⟩ : ∃ nl : Nat, left = nl := ⟨left.toNat, by omega⟩
      obtain ⟨nr, rfl⟩ : ∃ nr : Nat, right = nr := ⟨right.toNat, by omega⟩
      rcases hop with rfl | rfl
      · exact plainTwo1 Q ps ss root win G B n ev sv gi go es st N1 N2 fr to i nl nr (pg ps f nl) (pg ps f nr) low high step w ha ht h hx s1 s2 hf hto hn1 hn2 h.ne2 (fun n ev sv es st fr to w a b c d e g k l _ => ih nl (by omega) (by omega) n ev sv es st fr to w a b c d e g k l) (fun n ev sv es st fr to w a b c d e g k l _ => ih nr (by omega) (by omega) n ev sv es st fr to w a b c d e g k l)
      · exact plainTwo2 Q ps ss root win G B n ev sv gi go es st N1 N2 fr to i nl nr (pg ps f nl) (pg ps f nr) low high step w ha ht h hx s1 s2 hf hto hn1 hn2 h.ne2 (fun n ev sv es st fr to w a b c d e g k l _ => ih nl (by omega) (by omega) n ev sv es st fr to w a b c d e g k l) (fun n ev sv es st fr to w a b c d e g k l _ => ih nr (by omega) (by omega) n ev sv es st fr to w a b c d e g k l)
end Go.Proofs.YtcboiapggnmpfaaGreat
