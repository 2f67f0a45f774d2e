/- Walks: spotterref: a tree that is read; a graph's points and edges. -/
import Derived.Test.YtcboiapggnmpfaaGreatQa
import Derived.Test.YtcboiapggnmpfaaGreatQb
namespace Go.Proofs.YtcboiapggnmpfaaGreat
open Go.RowKit
set_option linter.unusedSimpArgs false
set_option linter.unusedVariables false

/-- Where a tree lies. -/
structure TP where
  T : Nat
  gp : Nat
  cp : Nat
  gt : Nat
  ct : Nat
/-- A tree that is only read: its parts, its steps (each with where its tests lie). -/
structure TreeR (w : World) (Q : TP) (ps : List Pt) (ss : List (St × Value)) (root win : Int) : Prop where
  c0 : w.cell? ⟨Q.T, 0, none⟩ = some (.slice (some ⟨Q.gp, 0, none⟩) ps.length Q.cp)
  c1 : w.cell? ⟨Q.T, 1, none⟩ = some (.slice (some ⟨Q.gt, 0, none⟩) ss.length Q.ct)
  c2 : w.cell? ⟨Q.T, 2, none⟩ = some (.int .i64 root)
  c3 : w.cell? ⟨Q.T, 3, none⟩ = some (.int .i64 win)
  part : ∀ (i : Nat) (x : Pt), ps[i]? = some x → w.cell? ⟨Q.gp, i * 6, none⟩ = some (.int .i64 x.op) ∧ w.cell? ⟨Q.gp, i * 6 + 1, none⟩ = some (.int .i64 x.left) ∧ w.cell? ⟨Q.gp, i * 6 + 2, none⟩ = some (.int .i64 x.right) ∧ w.cell? ⟨Q.gp, i * 6 + 3, none⟩ = some (.int .i64 x.low) ∧ w.cell? ⟨Q.gp, i * 6 + 4, none⟩ = some (.int .i64 x.high) ∧ w.cell? ⟨Q.gp, i * 6 + 5, none⟩ = some (.int .i64 x.step)
  step : ∀ (i : Nat) (x : St × Value), ss[i]? = some x → w.cell? ⟨Q.gt, i * 4, none⟩ = some (.int .i64 x.1.kind) ∧ w.cell? ⟨Q.gt, i * 4 + 1, none⟩ = some (.int .i64 x.1.name) ∧ w.cell? ⟨Q.gt, i * 4 + 2, none⟩ = some (.int .i64 x.1.pos) ∧ w.cell? ⟨Q.gt, i * 4 + 3, none⟩ = some x.2
  ltT : Q.T < w.heap.size
  ltp : Q.gp < w.heap.size
  ltt : Q.gt < w.heap.size
  np : ps.length ≤ 100000
  ns : ss.length ≤ 100000
theorem TreeR.kp {S : Nat → Prop} {w w' : World} {Q : TP} {ps : List Pt} {ss : List (St × Value)} {root win : Int} (h : TreeR w Q ps ss root win) (k : Kp S w w') (h1 : ¬ S Q.T) (h2 : ¬ S Q.gp) (h3 : ¬ S Q.gt) : TreeR w' Q ps ss root win := by
  have cT : ∀ o, w'.cell? ⟨Q.T, o, none⟩ = w.cell? ⟨Q.T, o, none⟩ := fun o => k.cell (p := ⟨Q.T, o, none⟩) h.ltT h1
  have cp : ∀ o, w'.cell? ⟨Q.gp, o, none⟩ = w.cell? ⟨Q.gp, o, none⟩ := fun o => k.cell (p := ⟨Q.gp, o, none⟩) h.ltp h2
  have ct : ∀ o, w'.cell? ⟨Q.gt, o, none⟩ = w.cell? ⟨Q.gt, o, none⟩ := fun o => k.cell (p := ⟨Q.gt, o, none⟩) h.ltt h3
  refine ⟨by rw [cT]; exact h.c0, by rw [cT]; exact h.c1, by rw [cT]; exact h.c2, by rw [cT]; exact h.c3, ?_, ?_, Nat.lt_of_lt_of_le h.ltT k.size, Nat.lt_of_lt_of_le h.ltp k.size, Nat.lt_of_lt_of_le h.ltt k.size, h.np, h.ns⟩
  · intro i x hx; simp only [cp]; exact h.part i x hx
  · intro i x hx; simp only [ct]; exact h.step i x hx
theorem TreeR.nw {w w' : World} {Q : TP} {ps : List Pt} {ss : List (St × Value)} {root win : Int} (h : TreeR w Q ps ss root win) (k : Nw w w') : TreeR w' Q ps ss root win := h.kp k (fun h => h) (fun h => h) (fun h => h)
/-- The kind of the first step with this name, -1 where there is none. -/
def kOf (name : Int) : List (St × Value) → Int
  | [] => -1
  | x :: r => if x.1.name = name then x.1.kind else kOf name r
theorem dropS {l : List (St × Value)} {i : Nat} {x : St × Value} (h : l[i]? = some x) : l.drop i = x :: l.drop (i + 1) := by
  obtain ⟨h1, h2⟩ := List.getElem?_eq_some_iff.1 h
  rw [List.drop_eq_getElem_cons h1, h2]
set_option maxHeartbeats 1000000 in
theorem kindOfR_any (Q : TP) (ps : List Pt) (ss : List (St × Value)) (root win name : Int) (w : World) (h : TreeR w Q ps ss root win) :
    Calls Tryz.prog 203 #[.pointer (some ⟨Q.T, 0, none⟩), .int .i64 name] w fun e w' => e = .returned (.int .i64 (kOf name ss)) ∧ w' = w := by
  have H : Hid (TreeR w Q ps ss root win) := h
  have c1 := h.c1
  have hns := h.ns
  clear h
  obtain ⟨T, gp, cp, gt, ct⟩ := Q
  simp only at c1
  generalize hR : kOf name ss = R
  have HR : Hid (kOf name ss = R) := hR
  clear hR
  go_enter Tryz.func203, Tryz.ntmps203
  go_wp2
  go_loopg [5] ss.length (fun m v5 wr => ∃ i : Nat, v5 = .int .i64 i ∧ m = ss.length - i ∧ i ≤ ss.length ∧ kOf name (ss.drop i) = R ∧ wr = w)
  case atStart => exact ⟨0, rfl, rfl, by omega, HR.out, rfl⟩
  case round =>
    obtain ⟨i, rfl, hm, hi, hk, rfl⟩ := hrel
    by_cases hi' : i < ss.length
    · obtain ⟨x, hx⟩ : ∃ x, ss[i]? = some x := ⟨ss[i], by simp [hi']⟩
      obtain ⟨d0, d1, d2, d3⟩ := H.out.step i x hx
      simp only at d0 d1 d2 d3
      rw [dropS hx] at hk
      simp only [kOf] at hk
      have HK : Hid ((if x.1.name = name then x.1.kind else kOf name (ss.drop (i + 1))) = R) := hk
      clear hx hk
      by_cases he : x.1.name = name
      · have he' : (x.1.name == name) = true := by simp [he]
        have HE : Hid (x.1.kind = R) := by have := HK.out; rw [if_pos he] at this; exact this
        clear he
        go_wp2
        go_ret
        exact ⟨by rw [← HE.out]; rfl, rfl⟩
      · have he' : (x.1.name == name) = false := by simp [he]
        have HE : Hid (kOf name (ss.drop (i + 1)) = R) := by have := HK.out; rw [if_neg he] at this; exact this
        clear he
        go_wp2
        go_roundg (ss.length - (i + 1))
        case measure => omega
        case rel => exact ⟨i + 1, by simp, rfl, by omega, HE.out, rfl⟩
    · have e : R = -1 := by rw [← hk, List.drop_eq_nil_of_le (by omega)]; rfl
      have HE : Hid (R = -1) := e
      clear e
      go_wp2
      go_ret
      exact ⟨by rw [HE.out]; rfl, rfl⟩
/-- An edge of the graph. -/
structure Ed where
  fr : Int
  to : Int
  st : Int
def edC (e : Ed) : List Value := [.int .i64 e.fr, .int .i64 e.to, .int .i64 e.st]
def edsC (l : List Ed) : List Value := (l.map edC).flatten
/-- A graph in block G: how many points, its edges, its places' steps. -/
structure Gr (w : World) (G : Nat) (n : Nat) (ev sv : Value) (i o : Int) : Prop where
  c0 : w.cell? ⟨G, 0, none⟩ = some (.int .i64 n)
  c1 : w.cell? ⟨G, 1, none⟩ = some ev
  c2 : w.cell? ⟨G, 2, none⟩ = some sv
  c3 : w.cell? ⟨G, 3, none⟩ = some (.int .i64 i)
  c4 : w.cell? ⟨G, 4, none⟩ = some (.int .i64 o)
  fz : ∀ q, w.frozen? ⟨G, q, none⟩ = false
theorem Gr.lt {w : World} {G n : Nat} {ev sv : Value} {i o : Int} (h : Gr w G n ev sv i o) : G < w.heap.size := World.block_lt_of_cell? w ⟨G, 0, none⟩ h.c0
theorem Gr.sm {w w' : World} {G n : Nat} {ev sv : Value} {i o : Int} (h : Gr w G n ev sv i o) (k : Sm w w' G) : Gr w' G n ev sv i o :=
  ⟨(k.cell 0).trans h.c0, (k.cell 1).trans h.c1, (k.cell 2).trans h.c2, (k.cell 3).trans h.c3, (k.cell 4).trans h.c4, fun q => (k.froz q).trans (h.fz q)⟩
theorem Gr.set0 {w : World} {G n : Nat} {ev sv : Value} {i o : Int} (h : Gr w G n ev sv i o) (m : Nat) : Gr (w.setCell ⟨G, 0, none⟩ (.int .i64 m)) G m ev sv i o := by
  obtain ⟨c0, c1, c2, c3, c4, fz⟩ := h
  constructor <;> simp [go_sem, c0, c1, c2, c3, c4, fz]
theorem Gr.set1 {w : World} {G n : Nat} {ev sv : Value} {i o : Int} (h : Gr w G n ev sv i o) (v : Value) : Gr (w.setCell ⟨G, 1, none⟩ v) G n v sv i o := by
  obtain ⟨c0, c1, c2, c3, c4, fz⟩ := h
  constructor <;> simp [go_sem, c0, c1, c2, c3, c4, fz]
theorem point_any (G n : Nat) (ev sv : Value) (i o : Int) (w : World) (h : Gr w G n ev sv i o) (hn : n ≤ 1000000) :
    Calls Tryz.prog 144 #[.pointer (some ⟨G, 0, none⟩)] w fun e w' => e = .returned (.int .i64 n) ∧ w' = w.setCell ⟨G, 0, none⟩ (.int .i64 ((n + 1 : Nat) : Int)) := by
  obtain ⟨c0, c1, c2, c3, c4, fz⟩ := h
  go_enter Tryz.func144, Tryz.ntmps144
  go_wp2
  go_ret
  exact ⟨by simp, by simp⟩
end Go.Proofs.YtcboiapggnmpfaaGreat

namespace Go.Proofs.YtcboiapggnmpfaaGreat
open Go.RowKit
set_option linter.unusedSimpArgs false
set_option linter.unusedVariables false

theorem Tryz.info179 : (Tryz.prog.info? 179).map (fun i => (i.zero, i.size, i.bytes)) = some (some (.agg #[.int .i64 0, .int .i64 0, .int .i64 0]), 3, 24) := by kernel_rfl
theorem edC_one (x : Ed) : ∀ u ∈ edC x, u.oneCell' = true := by
  intro u hu
  simp only [edC, List.mem_cons, List.not_mem_nil, or_false] at hu
  rcases hu with h | h | h <;> subst h <;> rfl
theorem edsC_length (l : List Ed) : (edsC l).length = l.length * 3 := by
  induction l with
  | nil => rfl
  | cons x r ih =>
    have : edsC (x :: r) = edC x ++ edsC r := by simp [edsC]
    rw [this, List.length_append, ih, List.length_cons]
    simp [edC]; omega
theorem edsC_get : ∀ (l : List Ed) (i k : Nat) (x : Ed), l[i]? = some x → k < 3 → (edsC l)[i * 3 + k]? = (edC x)[k]? := by
  intro l
  induction l with
  | nil => intro i k x h; simp at h
  | cons y r ih =>
    intro i k x h hk
    have e : edsC (y :: r) = edC y ++ edsC r := by simp [edsC]
    have hl : (edC y).length = 3 := rfl
    rw [e]
    cases i with
    | zero =>
      simp at h; subst h
      rw [List.getElem?_append_left (by omega)]
      simp
    | succ i =>
      simp at h
      rw [List.getElem?_append_right (by omega), hl]
      have : (i + 1) * 3 + k - 3 = i * 3 + k := by omega
      rw [this]; exact ih i k x h hk
/-- A graph with a row of edges of its own, from B on. -/
structure GS (w : World) (G B n : Nat) (ev sv : Value) (i o : Int) (es : List Ed) : Prop where
  gr : Gr w G n ev sv i o
  own : w.ownsRow B 179 3 ev es.length (edsC es)
  hG : G < B
  hB : B ≤ w.heap.size
  ne : es.length ≤ 100000
  ok : ∀ e ∈ es, 0 ≤ e.fr ∧ e.fr < n ∧ 0 ≤ e.to ∧ e.to < n
/-- A row's block is the one that it was, or a new one. -/
def Own (w : World) (v v' : Value) : Prop := ∀ b, v'.ownBlock = some b → v.ownBlock = some b ∨ w.heap.size ≤ b
abbrev KG (G : Nat) (ev : Value) (w w' : World) : Prop := Kp (fun b => b = G ∨ ev.ownBlock = some b) w w'
theorem Own.refl (w : World) (v : Value) : Own w v v := fun _ h => Or.inl h
theorem Own.trans {w w1 : World} {v v1 v2 : Value} (h : Own w v v1) (hs : w.heap.size ≤ w1.heap.size) (h2 : Own w1 v1 v2) : Own w v v2 := by
  intro b hb
  rcases h2 b hb with e | e
  · exact h b e
  · exact Or.inr (by omega)
theorem KG.trans {G : Nat} {ev ev1 : Value} {w w1 w2 : World} (k : KG G ev w w1) (o : Own w ev ev1) (k2 : KG G ev1 w1 w2) : KG G ev w w2 := by
  refine Kp.trans' k k2 ?_
  rintro i hi (e | e)
  · exact Or.inl e
  · rcases o i e with e | e
    · exact Or.inr e
    · omega
set_option maxRecDepth 100000 in
set_option maxHeartbeats 1000000 in
theorem free_any (G B n : Nat) (ev sv : Value) (i o : Int) (es : List Ed) (fr to : Int) (w : World) (h : GS w G B n ev sv i o es) (hn : es.length < 100000) (hf : 0 ≤ fr ∧ fr < n) (ht : 0 ≤ to ∧ to < n) :
    Calls Tryz.prog 189 #[.pointer (some ⟨G, 0, none⟩), .int .i64 fr, .int .i64 to] w fun e w' =>
      e = .returned (.tuple #[]) ∧ ∃ ev', GS w' G B n ev' sv i o (es ++ [⟨fr, to, -1⟩]) ∧ KG G ev w w' ∧ Own w ev ev' := by
  have H : Hid (GS w G B n ev sv i o es) := h
  have hl := h.gr.lt
  have hown := h.own
  have hG := h.hG
  have hB := h.hB
  obtain ⟨c0, c1, c2, c3, c4, fz⟩ := h.gr
  clear h c0 c2 c3 c4
  obtain ⟨i0, hi0, hz0, hz1, hz2⟩ := info_parts Tryz.info179
  have hge : Hid (∀ b, ev.ownBlock = some b → B ≤ b ∧ b < w.heap.size) := fun b hb => hown.lt b hb
  have hGn : ¬ some G = ev.ownBlock := by intro e; have := hge.out G e.symm; omega
  have HO : Hid (w.ownsRow B 179 3 ev es.length (edsC es)) := hown
  clear hown
  go_enter Tryz.func189, Tryz.ntmps189
  go_wp2_with (at_builtin; refine wpList_append_lies _ rfl _ _ 168 rfl B 179 i0 (.agg #[.int .i64 0, .int .i64 0, .int .i64 0]) 3 24 Tryz.underlying168 hi0 hz0 hz1 hz2 rfl (by decide) _ _ _ rfl (HO.out.alloc _) ⟨w.heap.size, 0, none⟩ 1 1 [.int .i64 fr, .int .i64 to, .int .i64 (-1)] rfl rfl ?c1 ?c2 (by decide) ?c3 ?c4 ?c5 _ rfl ?_)
  case c1 => exact news_one _ rfl _ _
  case c2 => exact edC_one ⟨fr, to, -1⟩
  case c3 => unfold maxLen; omega
  case c4 => omega
  case c5 => simp; omega
  intro g cap w1 hown1 hgrow hat hlt
  have kg : Kp (fun b => b = G ∨ ev.ownBlock = some b) w w1 := ((Kp.refl _ w).alloc _).grown hgrow (fun b hb => Or.inr (Or.inr hb))
  have hGk : ∀ o, w1.cell? ⟨G, o, none⟩ = w.cell? ⟨G, o, none⟩ := fun o => (hgrow.cell_far _ (by simp; omega) hGn).trans (by simp [go_sem, hl, World.cell?_alloc_past])
  have hGz : ∀ o, w1.frozen? ⟨G, o, none⟩ = w.frozen? ⟨G, o, none⟩ := fun o => (hgrow.frozen_far _ (by simp; omega) hGn).trans (by simp [go_sem, hl, World.frozen?_alloc_past])
  have G1 : Hid (Gr w1 G n ev sv i o) := H.out.gr.sm ⟨hGk, hGz⟩
  have O1 : Hid (w1.ownsRow B 179 3 (.slice (some ⟨g, 0, none⟩) (es.length + 1) cap) (es ++ [(⟨fr, to, -1⟩ : Ed)]).length (edsC (es ++ [(⟨fr, to, -1⟩ : Ed)]))) := by
    have e1 : (es ++ [(⟨fr, to, -1⟩ : Ed)]).length = es.length + 1 := by simp
    have e2 : edsC (es ++ [(⟨fr, to, -1⟩ : Ed)]) = edsC es ++ edC ⟨fr, to, -1⟩ := by simp [edsC]
    show w1.ownsRow _ _ _ _ _ _
    rw [e1, e2]; exact hown1
  have K1 : Hid (Kp (fun b => b = G ∨ ev.ownBlock = some b) w w1) := kg
  have OW : Hid (Own w ev (.slice (some ⟨g, 0, none⟩) (es.length + 1) cap)) := by
    intro b hb
    simp [Value.ownBlock] at hb
    subst hb
    rcases hat with e | e
    · exact Or.inl e
    · exact Or.inr (by omega)
  clear kg hown1 hgrow hat
  go_wp2
  go_end0
  have K2 : Kp (fun b => b = G ∨ ev.ownBlock = some b) w (w1.setCell ⟨G, 1, none⟩ (.slice (some ⟨g, 0, none⟩) (es.length + 1) cap)) := K1.out.setCell (p := ⟨G, 1, none⟩) (Or.inr (Or.inl rfl)) _
  refine ⟨rfl, .slice (some ⟨g, 0, none⟩) (es.length + 1) cap, ⟨G1.out.set1 _, ownsRow_setCell_below O1.out (a := ⟨G, 1, none⟩) hG _, hG, Nat.le_trans hB K2.size, by simp; omega, ?_⟩, K2, OW.out⟩
  intro e he
  rcases List.mem_append.1 he with he | he
  · exact H.out.ok e he
  · simp at he; subst he; exact ⟨hf.1, hf.2, ht.1, ht.2⟩
end Go.Proofs.YtcboiapggnmpfaaGreat

namespace Go.Proofs.YtcboiapggnmpfaaGreat
open Go.RowKit
set_option linter.unusedSimpArgs false
set_option linter.unusedVariables false

/-- The first edge of a step (0, 0, 0: there is none). -/
def edOf (k : Int) : List Ed → Ed
  | [] => ⟨0, 0, 0⟩
  | x :: r => if x.st = k then x else edOf k r
theorem edOf_mem (k : Int) : ∀ l : List Ed, edOf k l ∈ l ∨ edOf k l = ⟨0, 0, 0⟩ := by
  intro l
  induction l with
  | nil => exact Or.inr rfl
  | cons x r ih =>
    simp only [edOf]
    split
    · exact Or.inl (by simp)
    · rcases ih with h | h
      · exact Or.inl (by simp [h])
      · exact Or.inr h
theorem dropE {l : List Ed} {i : Nat} {x : Ed} (h : l[i]? = some x) : l.drop i = x :: l.drop (i + 1) := by
  obtain ⟨h1, h2⟩ := List.getElem?_eq_some_iff.1 h
  rw [List.drop_eq_getElem_cons h1, h2]
/-- The graph's edges, only read. -/
structure GE (w : World) (G : Nat) (ev : Value) (es : List Ed) : Prop where
  c1 : w.cell? ⟨G, 1, none⟩ = some ev
  len : ∃ p c, ev = .slice p es.length c
  cell : ∀ (i : Nat) (x : Ed), es[i]? = some x → ∃ g c, ev = .slice (some ⟨g, 0, none⟩) es.length c ∧ g < w.heap.size ∧ w.cell? ⟨g, i * 3, none⟩ = some (.int .i64 x.fr) ∧ w.cell? ⟨g, i * 3 + 1, none⟩ = some (.int .i64 x.to) ∧ w.cell? ⟨g, i * 3 + 2, none⟩ = some (.int .i64 x.st)
  lt : G < w.heap.size
  ne : es.length ≤ 100000
theorem GS.ge {w : World} {G B n : Nat} {ev sv : Value} {i o : Int} {es : List Ed} (h : GS w G B n ev sv i o es) : GE w G ev es := by
  refine ⟨h.gr.c1, ?_, ?_, h.gr.lt, h.ne⟩
  · rcases h.own.2 with ⟨h2, h3⟩ | ⟨g', cap', cur, h2, _⟩
    · exact ⟨none, 0, by rw [h2, h3]⟩
    · exact ⟨_, _, h2⟩
  · intro j x hx
    have hj : 0 < es.length := by have := (List.getElem?_eq_some_iff.1 hx).1; omega
    obtain ⟨g, c, rfl, _, hg⟩ := h.own.form hj
    exact ⟨g, c, rfl, hg, owns_cell h.own (j * 3) (by have := edsC_get es j 0 x hx (by omega); simpa [edC] using this), owns_cell h.own (j * 3 + 1) (by have := edsC_get es j 1 x hx (by omega); simpa [edC] using this), owns_cell h.own (j * 3 + 2) (by have := edsC_get es j 2 x hx (by omega); simpa [edC] using this)⟩
theorem GE.nw {w w' : World} {G : Nat} {ev : Value} {es : List Ed} (h : GE w G ev es) (k : Nw w w') : GE w' G ev es := by
  refine ⟨(k.cell (p := ⟨G, 1, none⟩) h.lt (fun h => h)).trans h.c1, h.len, ?_, Nat.lt_of_lt_of_le h.lt k.size, h.ne⟩
  intro i x hx
  obtain ⟨g, c, e, hg, d0, d1, d2⟩ := h.cell i x hx
  exact ⟨g, c, e, Nat.lt_of_lt_of_le hg k.size, (k.cell (p := ⟨g, i * 3, none⟩) hg (fun h => h)).trans d0, (k.cell (p := ⟨g, i * 3 + 1, none⟩) hg (fun h => h)).trans d1, (k.cell (p := ⟨g, i * 3 + 2, none⟩) hg (fun h => h)).trans d2⟩
def edV (e : Ed) : Value := .agg #[.int .i64 e.fr, .int .i64 e.to, .int .i64 e.st]
set_option maxRecDepth 100000 in
set_option maxHeartbeats 1000000 in
theorem edgeOf_any (G : Nat) (ev : Value) (es : List Ed) (k : Int) (w : World) (h : GE w G ev es) :
    Calls Tryz.prog 94 #[.pointer (some ⟨G, 0, none⟩), .int .i64 k] w fun e w' => e = .returned (edV (edOf k es)) ∧ Nw w w' := by
  have H : Hid (∀ ob, GE (w.alloc ob) G ev es) := fun ob => h.nw ((Kp.refl _ _).alloc _)
  have hl := h.lt
  have hne : ¬ G = w.heap.size := by omega
  have hne' : ¬ w.heap.size = G := by omega
  have hn := h.ne
  obtain ⟨p, c, rfl⟩ := h.len
  have HL : Hid (GE w G (.slice p es.length c) es) := h
  clear h
  generalize hR : edOf k es = R
  have HR : Hid (edOf k es = R) := hR
  clear hR
  go_enter Tryz.func94, Tryz.ntmps94
  go_wp2
  go_loopg [5] es.length (fun m v5 wr => ∃ i : Nat, v5 = .int .i64 i ∧ m = es.length - i ∧ i ≤ es.length ∧ edOf k (es.drop i) = R ∧ wr = w.alloc (.cells #[.int .i64 0, .int .i64 0, .int .i64 0] 179))
  case atStart => exact ⟨0, rfl, rfl, by omega, HR.out, rfl⟩
  case round =>
    obtain ⟨i, rfl, hm, hi, hk, rfl⟩ := hrel
    have c1 := HL.out.c1
    by_cases hi' : i < es.length
    · obtain ⟨x, hx⟩ : ∃ x, es[i]? = some x := ⟨es[i], by simp [hi']⟩
      obtain ⟨g, c', e', hg, d0, d1, d2⟩ := HL.out.cell i x hx
      simp only [Value.slice.injEq, true_and] at e'
      obtain ⟨rfl, rfl⟩ := e'
      have hg1 : ¬ g = w.heap.size := by omega
      have hg2 : ¬ w.heap.size = g := by omega
      rw [dropE hx] at hk
      simp only [edOf] at hk
      have HK : Hid ((if x.st = k then x else edOf k (es.drop (i + 1))) = R) := hk
      clear hx hk
      by_cases he : x.st = k
      · have he' : (x.st == k) = true := by simp [he]
        have HE : Hid (R = x) := by have := HK.out; rw [if_pos he] at this; exact this.symm
        clear he
        go_wp2
        refine bodyPost_ret (by simp [results, Tryz.results94, go_sem]; rfl) rfl ?_
        go_light
        exact ⟨by rw [HE.out]; rfl, (Kp.refl _ w).alloc _⟩
      · have he' : (x.st == k) = false := by simp [he]
        have HE : Hid (edOf k (es.drop (i + 1)) = R) := by have := HK.out; rw [if_neg he] at this; exact this
        clear he
        go_wp2
        go_roundg (es.length - (i + 1))
        case measure => omega
        case rel => exact ⟨i + 1, by simp, rfl, by omega, HE.out, rfl⟩
    · have HE : Hid (R = ⟨0, 0, 0⟩) := by show _ = _; rw [← hk, List.drop_eq_nil_of_le (by omega)]; rfl
      clear hk
      go_wp2
      refine bodyPost_ret (by simp [results, Tryz.results94, go_sem]; rfl) rfl ?_
      go_light
      exact ⟨by rw [HE.out]; rfl, (Kp.refl _ w).alloc _⟩
end Go.Proofs.YtcboiapggnmpfaaGreat
