/- Walks: spotterref: Check. -/
import Derived.Test.YtcboiapggnmpfaaGreatCi
import Derived.Test.YtcboiapggnmpfaaGreatQj
import Derived.Test.YtcboiapggnmpfaaGreatGp
import Derived.Test.YtcboiapggnmpfaaGreatQa
namespace Go.Proofs.YtcboiapggnmpfaaGreat
open Go.RowKit
set_option linter.unusedSimpArgs false
set_option linter.unusedVariables false

def dress (sts : List St) : List (St × Value) := sts.map (fun s => (s, Value.bool false))
theorem dress_map (sts : List St) : (dress sts).map (·.1) = sts := by
  induction sts with
  | nil => rfl
  | cons a r ih => exact congrArg (a :: ·) ih
theorem isNew_congr {a b : List (St × Value)} (h : a.map (·.1) = b.map (·.1)) (i : Nat) (n : Int) : isNew a i n = isNew b i n := by
  have key : ∀ l : List (St × Value), (l.take i).all (fun y => y.1.name != n) = ((l.map (·.1)).take i).all (fun s => s.name != n) := by
    intro l
    rw [← List.map_take, List.all_map]
    rfl
  unfold isNew
  rw [key a, key b, h]
theorem slotsTo_congr {a b : List (St × Value)} (h : a.map (·.1) = b.map (·.1)) : ∀ i, slotsTo a i = slotsTo b i := by
  intro i
  induction i with
  | zero => rfl
  | succ i ih =>
    have hg : a[i]?.map (·.1) = b[i]?.map (·.1) := by
      have := congrArg (fun l => l[i]?) h
      simpa using this
    simp only [slotsTo]
    cases ea : a[i]? with
    | none =>
      cases eb : b[i]? with
      | none => simpa using ih
      | some y => rw [ea, eb] at hg; simp at hg
    | some x =>
      cases eb : b[i]? with
      | none => rw [ea, eb] at hg; simp at hg
      | some y =>
        rw [ea, eb] at hg
        simp at hg
        simp only [hg, isNew_congr h, ih]
/-- A tree that is not too large. -/
def SmallT (ps : List Pt) (sts : List St) : Prop := (∀ s ∈ sts, s.tests.length ≤ 4) ∧ lg ps (ps.length - 1 + 1) (ps.length - 1) ≤ 24 ∧ (slotsTo (dress sts) sts.length).length ≤ 4
theorem SmallT.of {ps : List Pt} {ss : List (St × Value)} {sts : List St} (h : Small' ps ss (ps.length - 1)) (e : ss.map (·.1) = sts) : SmallT ps sts := by
  obtain ⟨h1, h2, h3⟩ := h
  have hl : ss.length = sts.length := by have := congrArg List.length e; simpa using this
  refine ⟨?_, h2, ?_⟩
  · intro s hs
    rw [← e] at hs
    obtain ⟨x, hx, rfl⟩ := List.mem_map.1 hs
    exact h1 x hx
  · rw [slotsTo_congr (a := dress sts) (b := ss) (by rw [e, dress_map]), ← hl]; exact h3
theorem SmallT.back {ps : List Pt} {ss : List (St × Value)} {sts : List St} (h : SmallT ps sts) (e : ss.map (·.1) = sts) : Small' ps ss (ps.length - 1) := by
  obtain ⟨h1, h2, h3⟩ := h
  have hl : ss.length = sts.length := by have := congrArg List.length e; simpa using this
  refine ⟨?_, h2, ?_⟩
  · intro x hx
    exact h1 x.1 (by rw [← e]; exact List.mem_map_of_mem hx)
  · rw [slotsTo_congr (a := ss) (b := dress sts) (by rw [e, dress_map]), hl]; exact h3
def ParsedOk (s : ByteArray) : Prop := s.size ≤ 120 ∧ ∃ t o x, pTopOf (pAtom 8) (toks 0 (bI s)) = (some (t, o), x) ∧ SmallT (altP (atomP 8) (atomS 8) t.1 t.2 0 0) (altS (atomS 8) t.1 t.2)
def CheckPost (s : ByteArray) (w : World) (e : Ending) (w' : World) : Prop := ∃ f p : Int, e = .returned (.tuple #[.int .i64 f, .int .i64 p]) ∧ Nw w w' ∧ (f = 0 → ParsedOk s)
theorem posOf_nonneg (n : Nat) (l : List Tok) : (0 : Int) ≤ (posOf n l : Int) := by omega
/-- What is known of the parts of a text. -/
theorem parts_known {s : ByteArray} (hs : s.size ≤ 120) {t : AltOf (Atom 8)} {o : Option Int} {x : List Tok} (hp : pTopOf (pAtom 8) (toks 0 (bI s)) = (some (t, o), x)) :
    Seg 0 0 (altP (atomP 8) (atomS 8) t.1 t.2 0 0) (altS (atomS 8) t.1 t.2).length 1000000000000 ∧ (altP (atomP 8) (atomS 8) t.1 t.2 0 0).length ≤ 240 ∧ 0 < (altP (atomP 8) (atomS 8) t.1 t.2 0 0).length ∧ (altS (atomS 8) t.1 t.2).length ≤ 120 := by
  obtain ⟨u, hyu, hLu⟩ := pTop_y hp
  have hlL : (toks 0 (bI s)).length ≤ 120 := by have := toksL (bI s) 0; rw [bI_length] at this; omega
  have hul : u.length ≤ 120 := by
    rcases hLu with ⟨_, e⟩ | ⟨p, ds, _, e, _⟩
    · rw [← e]; exact hlL
    · rw [e] at hlL; simp at hlL; omega
  obtain ⟨hseg, h1, h2, h3⟩ := top_seg hyu (by omega)
  exact ⟨hseg, by omega, hseg.1, by omega⟩
set_option maxRecDepth 100000 in
set_option maxHeartbeats 4000000 in
theorem check_ref (hStep : ∀ (P : CuP) (B : Nat) (L : List Tok) (root win : Int), StepOk P B L root win) (sc s : ByteArray) (hsc : sc.size ≤ maxLen) (hs : s.size ≤ maxLen) (w : World) :
    Calls Tryz.prog 64 #[.string sc, .string s] w (CheckPost s w) := by
  have HSC : Hid (sc.size ≤ maxLen) := hsc
  have HS : Hid (s.size ≤ maxLen) := hs
  have HST : Hid (∀ (P : CuP) (B : Nat) (L : List Tok) (root win : Int), StepOk P B L root win) := hStep
  have hs2 : s.size ≤ 9223372036854775807 := by unfold maxLen at hs; omega
  clear hsc hs hStep
  by_cases h120 : s.size ≤ 120
  · go_enter Tryz.func64, Tryz.ntmps64
    go_wp2_with fail
    refine (Schema_any sc w HSC.out).mono ?_
    rintro e w1 ⟨rfl, hw1⟩
    have hw2 := hw1.symm
    subst hw2
    clear hw1
    generalize schemaB (bI sc) = sb
    cases sb with
    | false =>
      go_wp2
      go_ret2
      exact ⟨2, 0, rfl, Kp.refl _ _, by intro h; omega⟩
    | true =>
      go_wp2_with fail
      refine (Place_any s w HS.out).mono ?_
      rintro e w1 ⟨rfl, hb1⟩
      have K1 : Hid (Nw w w1) := (Kp.refl _ w).below hb1 (Nat.le_refl _)
      obtain ⟨hp1, hp2⟩ := place_top (bI s)
      rw [bI_length] at hp1 hp2
      have hf : f0 = ⟨0, 0, 0, 0, 0⟩ := rfl
      rw [hf]
      clear hb1 hf
      cases hpt : pTopOf (pAtom 8) (toks 0 (bI s)) with
      | mk r x =>
        rw [hpt] at hp1 hp2
        cases r with
        | none =>
          have hpl := hp2 rfl
          have hnn := posOf_nonneg s.size x
          simp only at hpl
          rw [hpl]
          generalize posOf s.size x = pz at *
          clear hp1 hp2 hpl
          go_wp2
          go_ret2
          exact ⟨3, pz, rfl, K1.out, by intro h; omega⟩
        | some tq =>
          obtain ⟨t, o⟩ := tq
          have hpl := (hp1 _ rfl).1
          rw [hpl]
          have HP : Hid (pTopOf (pAtom 8) (toks 0 (bI s)) = (some (t, o), x)) := hpt
          clear hp1 hp2 hpl hpt
          go_wp2_with fail
          refine (read_any HST.out s h120 t o x HP.out w1).mono ?_
          rintro e w2 ⟨Q, ss, rfl, hQT, htf, hss, k2⟩
          obtain ⟨hseg, hpl, hpp, hsl⟩ := parts_known h120 HP.out
          generalize hPS : altP (atomP 8) (atomS 8) t.1 t.2 0 0 = ps at *
          generalize hSS : altS (atomS 8) t.1 t.2 = sts at *
          have HOK : Hid (SmallT ps sts → ParsedOk s) := fun h => ⟨h120, t, o, x, HP.out, by rw [hPS, hSS]; exact h⟩
          have hsl2 : ss.length = sts.length := by have := congrArg List.length hss; simpa using this
          rw [← hsl2] at hseg hsl
          have hwf := hseg.wf
          have HWF : Hid (WfP ps ss.length) := hwf
          have HLG : Hid (∀ f i, 0 ≤ lg ps f i ∧ lg ps f i ≤ 100000000000000) := lg_le hseg
          have hpg := pg_le hseg (ps.length - 1 + 1) (ps.length - 1)
          have TF : Hid (TreeF w2 Q ps ss ((ps.length - 1 : Nat) : Int) (o.getD (-1))) := htf
          have K2 : Hid (Nw w w2) := K1.out.trans k2
          have HSS : Hid (ss.map (·.1) = sts) := hss
          have hns := htf.r.ns
          generalize o.getD (-1) = win at *
          have HPL : Hid (Calls Tryz.prog 98 #[.pointer (some ⟨Q.T, 0, none⟩)] w2 (OutPost w2 Q ps ss ((ps.length - 1 : Nat) : Int) win ss.length 0 0)) := by
            refine plainly_any Q ps ss (ps.length - 1) win w2 ss.length 0 0 (pg ps (ps.length - 1 + 1) (ps.length - 1)) htf (by omega) (by omega) ?_
            intro B ha n ev sv es st fr tq W a1 a2 a3 a4 a5 a6 a7 a8 _
            exact plain_any Q ps ss _ win w2.heap.size B 0 1 ss.length 0 hwf ha (ps.length - 1 + 1) (ps.length - 1) (by omega) (by omega) n ev sv es st fr tq W a1 a2 a3 a4 a5 a6 a7 a8
          clear hss hwf htf k2 hseg hPS hSS HP K1 hpg hQT
          go_wp2_with fail
          refine HPL.out.mono ?_
          rintro e w3 ⟨n, ev, sv, es, st, rfl, gq, q1, _, _, _, k3⟩
          have G3 : Hid (GQ w3 w2.heap.size n ev sv 0 1 es Q ps ss ((ps.length - 1 : Nat) : Int) win) := gq
          have ST3 : Hid (StOk es ss.length) := fun e he _ => q1 e he
          have K3 : Hid (Nw w w3) := K2.out.trans k3
          clear gq q1 k3 HPL TF
          generalize w2.heap.size = G at *
          go_wp2
          go_loopg [10] ss.length (fun m v10 wr => ∃ k : Nat, v10 = .int .i64 k ∧ m = ss.length - k ∧ k ≤ ss.length ∧ Nw w3 wr)
          case atStart => exact ⟨0, rfl, rfl, by omega, Kp.refl _ _⟩
          case round =>
            obtain ⟨k, rfl, hm, hk, kw⟩ := hrel
            have K4 : Hid (Nw w3 wr) := kw
            have d1 := (G3.out.nw kw).tf.r.c1
            clear kw
            by_cases hk' : k < ss.length
            · go_wp2_with fail
              refine (right_any (G3.out.nw K4.out) ST3.out HWF.out (by omega) sc HSC.out k hk').mono ?_
              rintro e w5 ⟨b, rfl, k5⟩
              have K5 : Hid (Nw w3 w5) := K4.out.trans k5
              clear k5 d1
              cases b with
              | true =>
                go_wp2
                go_roundg (ss.length - (k + 1))
                case measure => omega
                case rel => exact ⟨k + 1, by simp, rfl, by omega, K5.out⟩
              | false =>
                have d1 := (G3.out.nw K5.out).tf.r.c1
                obtain ⟨y, hy⟩ : ∃ y, ss[k]? = some y := ⟨ss[k], by simp [hk']⟩
                have d2 := ((G3.out.nw K5.out).tf.r.step k y hy).2.2.1
                generalize y.1.pos = yp at *
                have hkk : (k : Int) < ss.length := by omega
                clear hy
                go_wp2
                go_quiet (fail)
                go_wp2
                go_ret2
                exact ⟨4, yp, rfl, (K3.out.trans K5.out).drewN _, by intro h; omega⟩
            · have HLA : Hid (Calls Tryz.prog 100 #[.pointer (some ⟨Q.T, 0, none⟩)] wr (LargePost wr ps ss (ps.length - 1))) := large_any Q ps ss (ps.length - 1) win wr (G3.out.nw K4.out).tf HWF.out HLG.out (by omega)
              go_wp2_with fail
              refine HLA.out.mono ?_
              rintro e w5 ⟨b, rfl, k5, hb⟩
              have K5 : Hid (Nw w w5) := (K3.out.trans K4.out).trans k5
              have HB : Hid (b = false → Small' ps ss (ps.length - 1)) := hb
              clear k5 hb HLA d1
              cases b with
              | true =>
                go_wp2
                go_ret2
                exact ⟨5, 0, rfl, K5.out, by intro h; omega⟩
              | false =>
                go_wp2
                go_ret2
                exact ⟨0, 0, rfl, K5.out, fun _ => HOK.out (SmallT.of (HB.out (by first | trivial | rfl)) HSS.out)⟩
  · go_enter Tryz.func64, Tryz.ntmps64
    go_wp2
    go_ret2
    exact ⟨1, 0, rfl, Kp.refl _ _, by intro h; omega⟩
end Go.Proofs.YtcboiapggnmpfaaGreat
