/- Walks: spotterref: the graph of a pattern, just its edges; is it too large: just so. -/
import Derived.Test.YtcboiapggnmpfaaGreatGp
import Derived.Test.YtcboiapggnmpfaaGreatGq
import Derived.Test.YtcboiapggnmpfaaGreatQj
import Derived.Test.YtcboiapggnmpfaaGreatQs
import Derived.Test.YtcboiapggnmpfaaGreatQt
import Derived.Test.YtcboiapggnmpfaaGreatHe
namespace Go.Proofs.YtcboiapggnmpfaaGreat
open Go.RowKit
set_option linter.unusedSimpArgs false
set_option linter.unusedVariables false

def OutX (w : World) (Q : TP) (ps : List Pt) (ss : List (St × Value)) (root win : Int) (N1 : Nat) (X : List Ed × Nat) (e : Ending) (w' : World) : Prop :=
  ∃ (ev sv : Value), e = .returned (.pointer (some ⟨w.heap.size, 0, none⟩)) ∧ GQ w' w.heap.size X.2 ev sv 0 1 X.1 Q ps ss root win ∧ (∀ y ∈ X.1, y.st < N1) ∧ Nw w w'
set_option maxRecDepth 100000 in
set_option maxHeartbeats 2000000 in
theorem plainlyX_any (Q : TP) (ps : List Pt) (ss : List (St × Value)) (root : Nat) (win : Int) (w : World) (N1 N2 N : Nat) (X : Nat → Nat → Nat → List Ed × Nat) (h : TreeF w Q ps ss root win) (hN : N + 2 ≤ 100000) (hX2 : 2 ≤ (X 0 1 2).2 ∧ (X 0 1 2).2 ≤ 2 + N)
    (hI : ∀ B : Nat, Apart Q w.heap.size B → PlainX Q ps ss root win w.heap.size B 0 1 N1 N2 root N X) :
    Calls Tryz.prog 98 #[.pointer (some ⟨Q.T, 0, none⟩)] w (OutX w Q ps ss root win N1 (X 0 1 2)) := by
  have H : Hid (TreeF w Q ps ss root win) := h
  have HI : Hid (∀ B : Nat, Apart Q w.heap.size B → PlainX Q ps ss root win w.heap.size B 0 1 N1 N2 root N X) := hI
  have hT := h.r.ltT
  have hp := h.r.ltp
  have ht := h.r.ltt
  clear h hI
  have G0 := Gr.new w
  go_enter Tryz.func98, Tryz.ntmps98
  go_wp2_with fail
  refine (point_any w.heap.size 0 (.slice none 0 0) (.slice none 0 0) 0 0 _ G0 (by omega)).mono ?_
  rintro e w1 ⟨rfl, hw1⟩
  have G1 := G0.set0 1
  have K1 : Nw w w1 := by rw [hw1]; exact ((Kp.refl _ w).alloc _).setCell (p := ⟨w.heap.size, 0, none⟩) (Or.inl (Nat.le_refl _)) _
  have G1' : Gr w1 w.heap.size 1 (.slice none 0 0) (.slice none 0 0) 0 0 := by rw [hw1]; exact G1
  clear hw1 G0 G1
  obtain ⟨a0, a1, a2, a3, a4, az⟩ := G1'
  have HG1 : Hid (Gr w1 w.heap.size 1 (.slice none 0 0) (.slice none 0 0) 0 0) := ⟨a0, a1, a2, a3, a4, az⟩
  have HK1 : Hid (Nw w w1) := K1
  clear K1
  go_wp2_with fail
  refine (point_any w.heap.size 1 (.slice none 0 0) (.slice none 0 0) _ _ _ (HG1.out.set3 0) (by omega)).mono ?_
  rintro e w2 ⟨rfl, hw2⟩
  have G2 : Hid (Gr w2 w.heap.size 2 (.slice none 0 0) (.slice none 0 0) 0 0) := by show Gr _ _ _ _ _ _ _; rw [hw2]; exact (HG1.out.set3 0).set0 2
  have K2 : Hid (Nw w w2) := by show Nw _ _; rw [hw2]; exact (HK1.out.setCell (p := ⟨w.heap.size, 3, none⟩) (Or.inl (Nat.le_refl _)) _).setCell (p := ⟨w.heap.size, 0, none⟩) (Or.inl (Nat.le_refl _)) _
  clear hw2 a0 a1 a2 a3 a4 az
  obtain ⟨a0, a1, a2, a3, a4, az⟩ := G2.out
  have G3 : Hid (Gr (w2.setCell ⟨w.heap.size, 4, none⟩ (.int .i64 1)) w.heap.size 2 (.slice none 0 0) (.slice none 0 0) 0 1) := G2.out.set4 1
  have K3 : Hid (Nw w (w2.setCell ⟨w.heap.size, 4, none⟩ (.int .i64 1))) := K2.out.setCell (p := ⟨w.heap.size, 4, none⟩) (Or.inl (Nat.le_refl _)) _
  have T3 : Hid (TreeF (w2.setCell ⟨w.heap.size, 4, none⟩ (.int .i64 1)) Q ps ss root win) := H.out.nw K3.out
  have c2 := (H.out.nw K2.out).r.c2
  have hne : ¬ Q.T = w.heap.size := by omega
  have hne' : ¬ w.heap.size = Q.T := by omega
  go_wp2
  generalize hw3 : w2.setCell ⟨w.heap.size, 4, none⟩ (.int .i64 1) = w3 at *
  obtain ⟨b0, b1, b2, b3, b4, bz⟩ := G3.out
  have e2 := T3.out.r.c2
  have hl3 := G3.out.lt
  have HAP : Hid (Apart Q w.heap.size w3.heap.size) := ⟨by have := K3.out.size; omega, by have := K3.out.size; omega, by have := K3.out.size; omega, by omega, by omega, by omega⟩
  have HC : Hid (∀ j, Calls Tryz.prog 150 #[.pointer (some ⟨w.heap.size, 0, none⟩), .pointer (some ⟨Q.T, 0, none⟩), .int .i64 root, .int .i64 0, .int .i64 1] (w3.drewN j) (GPostX w.heap.size w3.heap.size 0 1 N1 N2 (X 0 1 2).2 (.slice none 0 0) (.slice none 0 0) ([] ++ (X 0 1 2).1) [] (w3.drewN j))) := fun j =>
    HI.out w3.heap.size HAP.out 2 (.slice none 0 0) (.slice none 0 0) [] [] 0 1 (w3.drewN j) (T3.out.nw ((Kp.refl _ _).drewN j)).r ((GT.fresh (w := w) hl3 G3.out).nw ((Kp.refl _ _).drewN j)) (by intro y hy; cases hy) (by intro y hy; cases hy) (by omega) (by omega) (by omega) (by simp; omega)
  clear a0 a1 a2 a3 a4 az c2 hw3
  go_region_with ((go_at_call 150; refine (HC.out _).mono ?_; rintro e1 w4 ⟨rfl, ev4, sv4, g4, x1, x2, k4, o1, o2⟩))
  all_goals
    have K4 : Hid (Nw w w4) := by
      refine Kp.trans' (K3.out.drewN _) k4 ?_
      rintro i hi (e | e | e)
      · omega
      · simp [Value.ownBlock] at e
      · simp [Value.ownBlock] at e
    simp only [List.nil_append] at g4 x1
    have GQ4 : Hid (GQ w4 w.heap.size (X 0 1 2).2 ev4 sv4 0 1 (X 0 1 2).1 Q ps ss root win) := ⟨g4.gs.gr, g4.gs.ge, H.out.nw K4.out, by omega, by omega, by omega, g4.gs.ok⟩
    have X1 : Hid (∀ y ∈ (X 0 1 2).1, y.st < N1) := x1
    clear k4 o1 o2 g4 x1 x2
    go_wp2
    go_ret
    exact ⟨ev4, sv4, rfl, GQ4.out, X1.out, K4.out⟩
set_option maxRecDepth 100000 in
set_option maxHeartbeats 2000000 in
theorem largeS_any (Q : TP) (ps : List Pt) (ss : List (St × Value)) (root : Nat) (win : Int) (w : World) (h : TreeF w Q ps ss root win) (hwf : WfP ps ss.length) (hb : ∀ f i, 0 ≤ lg ps f i ∧ lg ps f i ≤ 100000000000000) (hr : root < ps.length) :
    Calls Tryz.prog 100 #[.pointer (some ⟨Q.T, 0, none⟩)] w (SaysPost w (¬ Small' ps ss root)) := by
  have H : Hid (TreeF w Q ps ss root win) := h
  have hns := h.r.ns
  have c1 := h.r.c1
  have c2 := h.r.c2
  have HL := longR_any Q ps ss root win ss.length hwf hb (root + 1) root (by omega) hr w h.r
  have HSL := fun W (k : Nw w W) => slots_any Q ps ss root win W (h.r.nw k)
  have HSL : Hid (∀ W, Nw w W → Calls Tryz.prog 111 #[.pointer (some ⟨Q.T, 0, none⟩)] W (SlotsPost W (slotsTo ss ss.length))) := HSL
  have HL : Hid (Calls Tryz.prog 154 #[.pointer (some ⟨Q.T, 0, none⟩), .int .i64 root] w (IntPost w (lg ps (root + 1) root))) := HL
  have HBD := hb (root + 1) root
  obtain ⟨v, hv⟩ : ∃ v, v = lg ps (root + 1) root := ⟨_, rfl⟩
  have HV : Hid (v = lg ps (root + 1) root) := hv
  rw [← hv] at HBD HL
  clear h hwf hb hv
  obtain ⟨T, gp, cp, gt, ct⟩ := Q
  simp only at c1 c2
  go_enter Tryz.func100, Tryz.ntmps100
  go_wp2
  go_loopg [3] ss.length (fun m v3 wr => ∃ i : Nat, v3 = .int .i64 i ∧ m = ss.length - i ∧ i ≤ ss.length ∧ (∀ x ∈ ss.take i, x.1.tests.length ≤ 4) ∧ wr = w)
  case atStart => exact ⟨0, rfl, rfl, by omega, by simp, rfl⟩
  case round =>
    obtain ⟨i, rfl, hm, hi, ha, hwr⟩ := hrel
    have hwr2 := hwr.symm
    subst hwr2
    have HA : Hid (∀ x ∈ ss.take i, x.1.tests.length ≤ 4) := ha
    clear hwr ha
    by_cases hi' : i < ss.length
    · obtain ⟨x, hx⟩ : ∃ x, ss[i]? = some x := ⟨ss[i], by simp [hi']⟩
      have dx := (H.out.r.step i x hx).2.2.2
      have hxo := H.out.tests x (List.mem_of_getElem? hx)
      obtain ⟨tp, tc, hxv⟩ := owns_lenL hxo
      have hxl := H.out.tl x (List.mem_of_getElem? hx)
      rw [hxv] at dx
      simp only at dx
      have HX : Hid (ss[i]? = some x) := hx
      clear hx hxo hxv
      by_cases h4 : x.1.tests.length ≤ 4
      · have HT : Hid (∀ y ∈ ss.take (i + 1), y.1.tests.length ≤ 4) := by
          intro y hy
          rw [List.take_add_one, HX.out] at hy
          simp only [Option.toList_some, List.mem_append, List.mem_cons, List.not_mem_nil, or_false] at hy
          rcases hy with hy | hy
          · exact HA.out y hy
          · subst hy; exact h4
        clear HX
        generalize x.1.tests.length = tl at *
        go_wp2
        go_roundg (ss.length - (i + 1))
        case measure => omega
        case rel => exact ⟨i + 1, by simp, rfl, by omega, HT.out, rfl⟩
      · have HF : Hid (¬ Small' ps ss root) := by intro h; exact h4 (h.1 x (List.mem_of_getElem? HX.out))
        clear HX
        generalize x.1.tests.length = tl at *
        go_wp2
        go_ret
        exact ⟨true, rfl, ⟨fun _ => HF.out, fun _ => rfl⟩, Kp.refl _ _⟩
    · have HT : Hid (∀ y ∈ ss, y.1.tests.length ≤ 4) := by have := HA.out; rw [List.take_of_length_le (by omega)] at this; exact this
      clear HA
      go_wp2_with fail
      refine HL.out.mono ?_
      rintro e w1 ⟨rfl, k1⟩
      have K1 : Hid (Nw w w1) := k1
      clear k1 c1 c2
      go_wp2_with fail
      refine (HSL.out w1 K1.out).mono ?_
      rintro e w2 ⟨sv, rfl, ho, k2⟩
      have K2 : Hid (Nw w w2) := K1.out.trans k2
      obtain ⟨tp, tc, hxv⟩ := owns_lenL ho
      have hsl := slotsTo_len ss ss.length
      subst hxv
      generalize hlL : (slotsTo ss ss.length).length = lL at *
      have HLL : Hid ((slotsTo ss ss.length).length = lL) := hlL
      clear ho k2 hlL
      by_cases h24 : v ≤ 24
      · by_cases hl4 : lL ≤ 4
        · go_wp2
          go_ret
          refine ⟨false, ?_, ⟨(by intro h; cases h), fun h => absurd ⟨HT.out, by rw [← HV.out]; exact h24, by rw [HLL.out]; exact hl4⟩ h⟩, K2.out⟩
          simp; omega
        · have hl4' : decide ((lL : Int) ≤ 4) = false := by simp; omega
          go_wp2
          go_ret
          refine ⟨true, ?_, ⟨fun _ h => hl4 (by rw [← HLL.out]; exact h.2.2), fun _ => rfl⟩, K2.out⟩
          simp; omega
      · have h24' : decide (v ≤ 24) = false := by simp; omega
        go_wp2
        go_ret
        exact ⟨true, rfl, ⟨fun _ h => by have := h.2.1; rw [← HV.out] at this; omega, fun _ => rfl⟩, K2.out⟩
end Go.Proofs.YtcboiapggnmpfaaGreat

namespace Go.Proofs.YtcboiapggnmpfaaGreat
open Go.RowKit
set_option linter.unusedSimpArgs false
set_option linter.unusedVariables false

/-- The edges of a pattern's parts. -/
def es0 (ps : List Pt) : List Ed := (plP ps (ps.length - 1 + 1) (ps.length - 1) 0 1 2).1
theorem get_fst {a b : List (St × Value)} (h : a.map (·.1) = b.map (·.1)) (i : Nat) : a[i]?.map (·.1) = b[i]?.map (·.1) := by
  have := congrArg (fun l => l[i]?) h
  simpa using this
theorem get_some {a b : List (St × Value)} (h : a.map (·.1) = b.map (·.1)) {i : Nat} {x : St × Value} (hx : a[i]? = some x) : ∃ y, b[i]? = some y ∧ y.1 = x.1 := by
  have := get_fst h i
  rw [hx] at this
  cases hb : b[i]? with
  | none => rw [hb] at this; simp at this
  | some y => rw [hb] at this; simp at this; exact ⟨y, rfl, this.symm⟩
theorem okE_congr {a b : List (St × Value)} (h : a.map (·.1) = b.map (·.1)) (steps : Bool) (no : Int) : okE a steps no = okE b steps no := by
  funext e
  refine propext ⟨?_, ?_⟩
  · rintro (h1 | ⟨h1, h2 | h2⟩)
    · exact Or.inl h1
    · exact Or.inr ⟨h1, Or.inl h2⟩
    · refine Or.inr ⟨h1, Or.inr fun x hx => ?_⟩
      obtain ⟨y, hy, e1⟩ := get_some h.symm hx
      rw [← e1]; exact h2 y hy
  · rintro (h1 | ⟨h1, h2 | h2⟩)
    · exact Or.inl h1
    · exact Or.inr ⟨h1, Or.inl h2⟩
    · refine Or.inr ⟨h1, Or.inr fun x hx => ?_⟩
      obtain ⟨y, hy, e1⟩ := get_some h hx
      rw [← e1]; exact h2 y hy
theorem kOf_congr : ∀ (a b : List (St × Value)), a.map (·.1) = b.map (·.1) → ∀ n, kOf n a = kOf n b := by
  intro a
  induction a with
  | nil => intro b h n; cases b with
    | nil => rfl
    | cons y r => simp at h
  | cons x r ih =>
    intro b h n
    cases b with
    | nil => simp at h
    | cons y q =>
      simp only [List.map_cons, List.cons.injEq] at h
      simp only [kOf, h.1, ih q h.2 n]
theorem RightP_congr {hs : Int → Int} {ps : List Pt} {root : Nat} {a b : List (St × Value)} {es : List Ed} {gi k : Nat} {x : St} (h : a.map (·.1) = b.map (·.1)) : RightP hs ps root a es gi k x ↔ RightP hs ps root b es gi k x := by
  have hM : ∀ n, MaybeP a es k n ↔ MaybeP b es k n := by
    intro n
    constructor
    · rintro ⟨i, y, hy, h1, h2⟩
      obtain ⟨z, hz, e⟩ := get_some h hy
      exact ⟨i, z, hz, by rw [e]; exact h1, by rw [← okE_congr h]; exact h2⟩
    · rintro ⟨i, y, hy, h1, h2⟩
      obtain ⟨z, hz, e⟩ := get_some h.symm hy
      exact ⟨i, z, hz, by rw [e]; exact h1, by rw [okE_congr h]; exact h2⟩
  have hR : ∀ kd of fd, ReadP hs a es gi k kd of fd ↔ ReadP hs b es gi k kd of fd := by
    intro kd of fd
    unfold ReadP
    rw [okE_congr h, kOf_congr a b h]
  have hN : NameP ps root a es k x ↔ NameP ps root b es k x := by
    unfold NameP
    rw [hM]
    constructor
    · rintro ⟨h1, h2, h3⟩
      refine ⟨h1, h2, fun i y hi hy hn => ?_⟩
      obtain ⟨z, hz, e⟩ := get_some h.symm hy
      rw [← e]; exact h3 i z hi hz (by rw [e]; exact hn)
    · rintro ⟨h1, h2, h3⟩
      refine ⟨h1, h2, fun i y hi hy hn => ?_⟩
      obtain ⟨z, hz, e⟩ := get_some h hy
      rw [← e]; exact h3 i z hi hz (by rw [e]; exact hn)
  unfold RightP
  simp only [hN, hR]
/-- What Check answers of a text that was read. -/
def CheckT (hs : Int → Int) (ps : List Pt) (sts : List St) (f p : Int) : Prop :=
  (∃ k y, sts[k]? = some y ∧ ¬ RightP hs ps (ps.length - 1) (dress sts) (es0 ps) 0 k y ∧ (∀ j z, j < k → sts[j]? = some z → RightP hs ps (ps.length - 1) (dress sts) (es0 ps) 0 j z) ∧ f = 4 ∧ p = y.pos) ∨
  ((∀ j z, sts[j]? = some z → RightP hs ps (ps.length - 1) (dress sts) (es0 ps) 0 j z) ∧ ¬ SmallT ps sts ∧ f = 5 ∧ p = 0) ∨
  ((∀ j z, sts[j]? = some z → RightP hs ps (ps.length - 1) (dress sts) (es0 ps) 0 j z) ∧ SmallT ps sts ∧ f = 0 ∧ p = 0)
def CheckIs (sc s : ByteArray) (f p : Int) : Prop :=
  (120 < s.size ∧ f = 1 ∧ p = 0) ∨ (s.size ≤ 120 ∧ schemaB (bI sc) = false ∧ f = 2 ∧ p = 0) ∨
  (s.size ≤ 120 ∧ schemaB (bI sc) = true ∧ ∃ x, pTopOf (pAtom 8) (toks 0 (bI s)) = (none, x) ∧ f = 3 ∧ p = posOf s.size x) ∨
  (s.size ≤ 120 ∧ schemaB (bI sc) = true ∧ ∃ t o x, pTopOf (pAtom 8) (toks 0 (bI s)) = (some (t, o), x) ∧ CheckT (hasF (bI sc)) (altP (atomP 8) (atomS 8) t.1 t.2 0 0) (altS (atomS 8) t.1 t.2) f p)
def CheckSPost (sc s : ByteArray) (w : World) (e : Ending) (w' : World) : Prop := ∃ f p : Int, e = .returned (.tuple #[.int .i64 f, .int .i64 p]) ∧ Nw w w' ∧ CheckIs sc s f p
section
variable {hs : Int → Int} {ps : List Pt} {ss : List (St × Value)} {sts : List St} {es : List Ed}
theorem right_dress (e : ss.map (·.1) = sts) (he : es = es0 ps) {k : Nat} {x : St} : RightP hs ps (ps.length - 1) ss es 0 k x ↔ RightP hs ps (ps.length - 1) (dress sts) (es0 ps) 0 k x := by
  subst he
  exact RightP_congr (by rw [e, dress_map])
theorem dressed (e : ss.map (·.1) = sts) {k : Nat} {z : St} (hz : sts[k]? = some z) : ∃ y, ss[k]? = some y ∧ y.1 = z := by
  rw [← e, List.getElem?_map] at hz
  cases hs : ss[k]? with
  | none => rw [hs] at hz; simp at hz
  | some y => rw [hs] at hz; simp at hz; exact ⟨y, rfl, hz⟩
theorem checkT_wrong (e : ss.map (·.1) = sts) (he : es = es0 ps) {k : Nat} {y : St × Value} {f p : Int} (hy : ss[k]? = some y) (hn : ¬ RightP hs ps (ps.length - 1) ss es 0 k y.1) (ha : ∀ j z, j < k → ss[j]? = some z → RightP hs ps (ps.length - 1) ss es 0 j z.1) (hf : f = 4) (hp : p = y.1.pos) : CheckT hs ps sts f p := by
  refine Or.inl ⟨k, y.1, by rw [← e, List.getElem?_map, hy]; rfl, fun h => hn ((right_dress e he).2 h), fun j z hj hz => ?_, hf, hp⟩
  obtain ⟨q, hq, rfl⟩ := dressed e hz
  exact (right_dress e he).1 (ha j q hj hq)
theorem all_dress (e : ss.map (·.1) = sts) (he : es = es0 ps) (ha : ∀ j z, ss[j]? = some z → RightP hs ps (ps.length - 1) ss es 0 j z.1) : ∀ j z, sts[j]? = some z → RightP hs ps (ps.length - 1) (dress sts) (es0 ps) 0 j z := by
  intro j z hz
  obtain ⟨q, hq, rfl⟩ := dressed e hz
  exact (right_dress e he).1 (ha j q hq)
theorem checkT_large (e : ss.map (·.1) = sts) (he : es = es0 ps) (ha : ∀ j z, ss[j]? = some z → RightP hs ps (ps.length - 1) ss es 0 j z.1) (hl : ¬ Small' ps ss (ps.length - 1)) : CheckT hs ps sts 5 0 :=
  Or.inr (Or.inl ⟨all_dress e he ha, fun h => hl (h.back e), rfl, rfl⟩)
theorem checkT_ok (e : ss.map (·.1) = sts) (he : es = es0 ps) (ha : ∀ j z, ss[j]? = some z → RightP hs ps (ps.length - 1) ss es 0 j z.1) (hl : Small' ps ss (ps.length - 1)) : CheckT hs ps sts 0 0 :=
  Or.inr (Or.inr ⟨all_dress e he ha, SmallT.of hl e, rfl, rfl⟩)
end
theorem yTm_of {t : Tm} {u : List Tok} (h : yTm t u) : 0 ≤ t.of ∧ t.of ≤ 1000 := by
  rcases h with ⟨_, _, _, e⟩ | ⟨c, p, _, _, e⟩ | ⟨n, p, c, q, _, hn, _, e⟩
  · subst e; simp
  · subst e; simp
  · subst e
    rw [isName_iff] at hn
    simp only
    omega
theorem yTst_of {t : Tst} {u : List Tok} (h : yTst t u) : OfOk t := by
  obtain ⟨a, r, p, b, ya, yb, _, _, h⟩ := h
  refine ⟨yTm_of ya, yTm_of yb, ?_⟩
  rcases h with ⟨_, _, e⟩ | ⟨d, q, m, _, ym, _, _⟩
  · rw [e]; simp [tm0]
  · exact yTm_of ym
theorem yTsts_of : ∀ (ts : List Tst) (u : List Tok), yTsts ts u → ∀ q ∈ ts, OfOk q := by
  intro ts
  induction ts with
  | nil => intro u h q hq; cases hq
  | cons t ts ih =>
    intro u h q hq
    cases ts with
    | nil =>
      obtain ⟨a, p, ha, _⟩ := h
      rw [List.mem_singleton.1 hq]; exact yTst_of ha
    | cons t2 ts =>
      obtain ⟨a, p, v, ha, _, hv⟩ := h
      rcases List.mem_cons.1 hq with e | e
      · rw [e]; exact yTst_of ha
      · exact ih v hv q e
theorem alt_of {s : ByteArray} (hs : s.size ≤ 120) {t : AltOf (Atom 8)} {o : Option Int} {x : List Tok} (hp : pTopOf (pAtom 8) (toks 0 (bI s)) = (some (t, o), x)) : ∀ y ∈ altS (atomS 8) t.1 t.2, ∀ q ∈ y.tests, OfOk q := by
  obtain ⟨u, ⟨v, r, e, h1, h2⟩, _⟩ := pTop_y hp
  intro y hy q hq
  obtain ⟨z, ⟨c, a, b, _, _, _, _, hb⟩, _⟩ := alt_steps (atom_steps 8) t.2 t.1 v r h1 h2 y hy
  rcases hb with ⟨e2, _⟩ | ⟨p, v', _, hv⟩
  · rw [e2] at hq; cases hq
  · exact yTsts_of _ _ hv q hq
set_option maxRecDepth 100000 in
set_option maxHeartbeats 4000000 in
theorem checkS_ref (hStep : ∀ (P : CuP) (B : Nat) (L : List Tok) (root win : Int), StepOk P B L root win) (sc s : ByteArray) (hsc : sc.size ≤ maxLen) (hs : s.size ≤ maxLen) (w : World) :
    Calls Tryz.prog 64 #[.string sc, .string s] w (CheckSPost sc s w) := by
  have HSC : Hid (sc.size ≤ maxLen) := hsc
  have HS : Hid (s.size ≤ maxLen) := hs
  have HST : Hid (∀ (P : CuP) (B : Nat) (L : List Tok) (root win : Int), StepOk P B L root win) := hStep
  have hs2 : s.size ≤ 9223372036854775807 := by unfold maxLen at hs; omega
  clear hsc hs hStep
  by_cases h120 : s.size ≤ 120
  · go_enter Tryz.func64, Tryz.ntmps64
    go_wp2_with fail
    refine (Schema_any sc w HSC.out).mono ?_
    rintro e w1 ⟨rfl, hw1⟩
    have hw2 := hw1.symm
    subst hw2
    clear hw1
    generalize hsb : schemaB (bI sc) = sb
    have HSB : Hid (schemaB (bI sc) = sb) := hsb
    clear hsb
    cases sb with
    | false =>
      go_wp2
      go_ret2
      exact ⟨2, 0, rfl, Kp.refl _ _, Or.inr (Or.inl ⟨h120, HSB.out, rfl, rfl⟩)⟩
    | true =>
      go_wp2_with fail
      refine (Place_any s w HS.out).mono ?_
      rintro e w1 ⟨rfl, hb1⟩
      have K1 : Hid (Nw w w1) := (Kp.refl _ w).below hb1 (Nat.le_refl _)
      obtain ⟨hp1, hp2⟩ := place_top (bI s)
      rw [bI_length] at hp1 hp2
      have hf : f0 = ⟨0, 0, 0, 0, 0⟩ := rfl
      rw [hf]
      clear hb1 hf
      cases hpt : pTopOf (pAtom 8) (toks 0 (bI s)) with
      | mk r x =>
        rw [hpt] at hp1 hp2
        cases r with
        | none =>
          have hpl := hp2 rfl
          have hnn := posOf_nonneg s.size x
          simp only at hpl
          rw [hpl]
          have HPT : Hid (pTopOf (pAtom 8) (toks 0 (bI s)) = (none, x)) := hpt
          generalize hpz : posOf s.size x = pz at *
          have HPZ : Hid (posOf s.size x = pz) := hpz
          clear hp1 hp2 hpl hpt hpz
          go_wp2
          go_ret2
          exact ⟨3, pz, rfl, K1.out, Or.inr (Or.inr (Or.inl ⟨h120, HSB.out, x, HPT.out, rfl, by rw [HPZ.out]⟩))⟩
        | some tq =>
          obtain ⟨t, o⟩ := tq
          have hpl := (hp1 _ rfl).1
          rw [hpl]
          have HP : Hid (pTopOf (pAtom 8) (toks 0 (bI s)) = (some (t, o), x)) := hpt
          clear hp1 hp2 hpl hpt
          go_wp2_with fail
          refine (read_any HST.out s h120 t o x HP.out w1).mono ?_
          rintro e w2 ⟨Q, ss, rfl, hQT, htf, hss, k2⟩
          obtain ⟨hseg, hpl, hpp, hsl⟩ := parts_known h120 HP.out
          generalize hPS : altP (atomP 8) (atomS 8) t.1 t.2 0 0 = ps at *
          generalize hSS : altS (atomS 8) t.1 t.2 = sts at *
          have HIS : Hid (∀ f p, CheckT (hasF (bI sc)) ps sts f p → CheckIs sc s f p) := fun f p h => Or.inr (Or.inr (Or.inr ⟨h120, HSB.out, t, o, x, HP.out, by rw [hPS, hSS]; exact h⟩))
          have HOFT : Hid (∀ y ∈ sts, ∀ q ∈ y.tests, OfOk q) := by
            have := alt_of h120 HP.out
            rw [hSS] at this
            exact this
          have hsl2 : ss.length = sts.length := by have := congrArg List.length hss; simpa using this
          rw [← hsl2] at hseg hsl
          have hwf := hseg.wf
          have HWF : Hid (WfP ps ss.length) := hwf
          have HLG : Hid (∀ f i, 0 ≤ lg ps f i ∧ lg ps f i ≤ 100000000000000) := lg_le hseg
          have hpg := pg_le hseg (ps.length - 1 + 1) (ps.length - 1)
          have TF : Hid (TreeF w2 Q ps ss ((ps.length - 1 : Nat) : Int) (o.getD (-1))) := htf
          have K2 : Hid (Nw w w2) := K1.out.trans k2
          have HSS : Hid (ss.map (·.1) = sts) := hss
          have hns := htf.r.ns
          generalize o.getD (-1) = win at *
          have hple := plP_le ps (ps.length - 1 + 1) (ps.length - 1) 0 1 2
          have HPL : Hid (Calls Tryz.prog 98 #[.pointer (some ⟨Q.T, 0, none⟩)] w2 (OutX w2 Q ps ss ((ps.length - 1 : Nat) : Int) win ss.length (plP ps (ps.length - 1 + 1) (ps.length - 1) 0 1 2))) := by
            refine plainlyX_any Q ps ss (ps.length - 1) win w2 ss.length 0 (pg ps (ps.length - 1 + 1) (ps.length - 1)) (fun a b c => plP ps (ps.length - 1 + 1) (ps.length - 1) a b c) htf (by omega) (by omega) ?_
            intro B ha
            exact plainX_any Q ps ss _ win w2.heap.size B 0 1 ss.length 0 hwf ha (ps.length - 1 + 1) (ps.length - 1) (by omega) (by omega)
          have HES : Hid (es0 ps = (plP ps (ps.length - 1 + 1) (ps.length - 1) 0 1 2).1) := rfl
          clear hss hwf htf k2 hseg hPS hSS HP K1 hpg hQT
          go_wp2_with fail
          refine HPL.out.mono ?_
          rintro e w3 ⟨ev, sv, rfl, gq, q1, k3⟩
          rw [← HES.out] at gq q1
          generalize (plP ps (ps.length - 1 + 1) (ps.length - 1) 0 1 2).2 = n at gq
          obtain ⟨es, hes⟩ : ∃ es, es = es0 ps := ⟨_, rfl⟩
          rw [← hes] at gq q1
          have HE0 : Hid (es = es0 ps) := hes
          clear hes HES
          have G3 : Hid (GQ w3 w2.heap.size n ev sv 0 1 es Q ps ss ((ps.length - 1 : Nat) : Int) win) := gq
          have ST3 : Hid (StOk es ss.length) := fun e he _ => q1 e he
          have K3 : Hid (Nw w w3) := K2.out.trans k3
          clear gq q1 k3 HPL TF
          generalize w2.heap.size = G at *
          go_wp2
          go_loopg [10] ss.length (fun m v10 wr => ∃ k : Nat, v10 = .int .i64 k ∧ m = ss.length - k ∧ k ≤ ss.length ∧ Nw w3 wr ∧ ∀ j y, j < k → ss[j]? = some y → RightP (hasF (bI sc)) ps (ps.length - 1) ss es 0 j y.1)
          case atStart => exact ⟨0, rfl, rfl, by omega, Kp.refl _ _, by intro j y hj; omega⟩
          case round =>
            obtain ⟨k, rfl, hm, hk, kw, hall⟩ := hrel
            have HALL : Hid (∀ j y, j < k → ss[j]? = some y → RightP (hasF (bI sc)) ps (ps.length - 1) ss es 0 j y.1) := hall
            clear hall
            have K4 : Hid (Nw w3 wr) := kw
            have d1 := (G3.out.nw kw).tf.r.c1
            clear kw
            by_cases hk' : k < ss.length
            · obtain ⟨y, hy⟩ : ∃ y, ss[k]? = some y := ⟨ss[k], by simp [hk']⟩
              have HY : Hid (ss[k]? = some y) := hy
              have HRI : Hid (Calls Tryz.prog 99 #[.pointer (some ⟨G, 0, none⟩), .pointer (some ⟨Q.T, 0, none⟩), .string sc, .int .i64 k] wr (SaysPost wr (RightP (hasF (bI sc)) ps (ps.length - 1) ss es 0 k y.1))) := rightS_any (G3.out.nw K4.out) ST3.out HWF.out (by omega) sc HSC.out k y hy (HOFT.out y.1 (by rw [← HSS.out]; exact List.mem_map_of_mem (List.mem_of_getElem? hy)))
              obtain ⟨pr, hpr⟩ : ∃ pr : Prop, pr = RightP (hasF (bI sc)) ps (ps.length - 1) ss es 0 k y.1 := ⟨_, rfl⟩
              have HPR : Hid (pr = RightP (hasF (bI sc)) ps (ps.length - 1) ss es 0 k y.1) := hpr
              rw [← hpr] at HRI
              clear hy hpr
              go_wp2_with fail
              refine HRI.out.mono ?_
              rintro e w5 ⟨b, rfl, hb, k5⟩
              have HB : Hid (b = true ↔ pr) := hb
              clear hb HRI
              have K5 : Hid (Nw w3 w5) := K4.out.trans k5
              clear k5 d1
              cases b with
              | true =>
                have HALL2 : Hid (∀ j y, j < k + 1 → ss[j]? = some y → RightP (hasF (bI sc)) ps (ps.length - 1) ss es 0 j y.1) := by
                  intro j z hj hz
                  by_cases e : j = k
                  · subst e
                    have := HY.out
                    rw [hz] at this
                    cases this
                    rw [← HPR.out]; exact HB.out.1 (by first | rfl | trivial)
                  · exact HALL.out j z (by omega) hz
                go_wp2
                go_roundg (ss.length - (k + 1))
                case measure => omega
                case rel => exact ⟨k + 1, by simp, rfl, by omega, K5.out, HALL2.out⟩
              | false =>
                have d1 := (G3.out.nw K5.out).tf.r.c1
                have d2 := ((G3.out.nw K5.out).tf.r.step k y HY.out).2.2.1
                have HNR : Hid (¬ RightP (hasF (bI sc)) ps (ps.length - 1) ss es 0 k y.1) := by rw [← HPR.out]; intro h; have := HB.out.2 h; simp at this
                obtain ⟨yp, hyp⟩ : ∃ yp, y.1.pos = yp := ⟨_, rfl⟩
                have HYP : Hid (y.1.pos = yp) := hyp
                rw [hyp] at d2
                have hkk : (k : Int) < ss.length := by omega
                clear hyp
                go_wp2
                go_quiet (fail)
                go_wp2
                go_ret2
                exact ⟨4, yp, rfl, (K3.out.trans K5.out).drewN _, HIS.out _ _ (checkT_wrong HSS.out HE0.out HY.out HNR.out HALL.out rfl (by rw [HYP.out]))⟩
            · have HLA : Hid (Calls Tryz.prog 100 #[.pointer (some ⟨Q.T, 0, none⟩)] wr (SaysPost wr (¬ Small' ps ss (ps.length - 1)))) := largeS_any Q ps ss (ps.length - 1) win wr (G3.out.nw K4.out).tf HWF.out HLG.out (by omega)
              go_wp2_with fail
              refine HLA.out.mono ?_
              rintro e w5 ⟨b, rfl, hb, k5⟩
              have K5 : Hid (Nw w w5) := (K3.out.trans K4.out).trans k5
              have HB : Hid (b = true ↔ ¬ Small' ps ss (ps.length - 1)) := hb
              have HALL3 : Hid (∀ j y, ss[j]? = some y → RightP (hasF (bI sc)) ps (ps.length - 1) ss es 0 j y.1) := fun j y hy => HALL.out j y (by have := (List.getElem?_eq_some_iff.1 hy).1; omega) hy
              clear k5 hb HLA d1
              cases b with
              | true =>
                go_wp2
                go_ret2
                exact ⟨5, 0, rfl, K5.out, HIS.out _ _ (checkT_large HSS.out HE0.out HALL3.out (HB.out.1 (by first | rfl | trivial)))⟩
              | false =>
                go_wp2
                go_ret2
                exact ⟨0, 0, rfl, K5.out, HIS.out _ _ (checkT_ok HSS.out HE0.out HALL3.out (by apply Classical.byContradiction; intro h; have := HB.out.2 h; simp at this))⟩
  · go_enter Tryz.func64, Tryz.ntmps64
    go_wp2
    go_ret2
    exact ⟨1, 0, rfl, Kp.refl _ _, Or.inl ⟨by omega, rfl, rfl⟩⟩
end Go.Proofs.YtcboiapggnmpfaaGreat
