/- Plain mathematics: what the document's Check asks of a step is what the sets say. -/
import Derived.Test.YtcboiapggnmpfaaGreatQu
import Derived.Test.YtcboiapggnmpfaaGreatXc
namespace Go.Proofs.YtcboiapggnmpfaaGreat
set_option linter.unusedVariables false

def termsOf (s : St) : List (Int × Int) := s.tests.flatMap (fun t => [(t.left.of, t.left.field), (t.right.of, t.right.field), (t.more.of, t.more.field)])
/-- What is asked of the steps, by numbers. -/
def rulesOf (sts : List St) : Rules where
  nm := fun k => ((sts[k]?).map (·.name)).getD (-1)
  kd := fun k => ((sts[k]?).map (·.kind)).getD 0
  tr := fun k => ((sts[k]?).map termsOf).getD []
theorem rules_at {sts : List St} {k : Nat} {y : St} (h : sts[k]? = some y) : (rulesOf sts).nm k = y.name ∧ (rulesOf sts).kd k = y.kind ∧ (rulesOf sts).tr k = termsOf y := by
  simp [rulesOf, h]
theorem dress_get (sts : List St) (i : Nat) : (dress sts)[i]? = (sts[i]?).map (fun s => (s, Value.bool false)) := by simp [dress]
theorem rc_iff {ok : Nat → Bool} {okd : Ed → Prop} {E : List Eg} (h : ∀ e ∈ E, (okd (toEd e) ↔ (e.st < 0 ∨ ok e.st.toNat = true))) (a b : Nat) : Rc okd (E.map toEd) a b ↔ Reach ok E a b := by
  constructor
  · intro hr S h0 hS
    refine hr S h0 ?_
    intro e he ho
    obtain ⟨d, hd, rfl⟩ := List.mem_map.1 he
    simp only [toEd, Int.toNat_natCast]
    exact hS d hd ((h d hd).1 ho)
  · intro hr S h0 hS
    refine hr S h0 ?_
    intro d hd ho
    have := hS (toEd d) (List.mem_map_of_mem hd) ((h d hd).2 ho)
    simpa [toEd] using this
theorem edOf_at {E : List Eg} {d : Eg} {k : Nat} (hd : d ∈ E) (hk : d.st = (k : Int)) (hone : ∀ e ∈ E, ∀ f ∈ E, 0 ≤ e.st → e.st = f.st → e = f) : edOf (k : Int) (E.map toEd) = toEd d := by
  have key : ∀ l : List Eg, (∀ e ∈ l, e ∈ E) → d ∈ l → edOf (k : Int) (l.map toEd) = toEd d := by
    intro l
    induction l with
    | nil => intro _ h; cases h
    | cons x l ih =>
      intro hs hm
      simp only [List.map_cons, edOf]
      by_cases e : x.st = (k : Int)
      · have : x = d := hone x (hs x (by simp)) d hd (by omega) (by omega)
        rw [if_pos (show (toEd x).st = (k : Int) from e), this]
      · rw [if_neg (show ¬ (toEd x).st = (k : Int) from e)]
        rcases List.mem_cons.1 hm with h | h
        · subst h; exact absurd hk e
        · exact ih (fun e he => hs e (List.mem_cons_of_mem _ he)) h
  exact key E (fun _ h => h) hd
/-- The kind of the first step of a name. -/
theorem kOf_spec (x : Int) : ∀ sts : List St, (∃ (j : Nat) (y : St), sts[j]? = some y ∧ y.name = x ∧ (∀ (i : Nat) (z : St), i < j → sts[i]? = some z → ¬ z.name = x) ∧ kOf x (dress sts) = y.kind) ∨ ((∀ y ∈ sts, ¬ y.name = x) ∧ kOf x (dress sts) = -1) := by
  intro sts
  induction sts with
  | nil => exact Or.inr ⟨by simp, rfl⟩
  | cons s r ih =>
    have e : kOf x (dress (s :: r)) = if s.name = x then s.kind else kOf x (dress r) := rfl
    by_cases h : s.name = x
    · exact Or.inl ⟨0, s, rfl, h, fun i z hi => by omega, by rw [e, if_pos h]⟩
    · rw [e, if_neg h]
      rcases ih with ⟨j, y, h1, h2, h3, h4⟩ | ⟨h1, h2⟩
      · refine Or.inl ⟨j + 1, y, by simpa using h1, h2, ?_, h4⟩
        intro i z hi hz
        cases i with
        | zero => simp at hz; subst hz; exact h
        | succ i => exact h3 i z (by omega) (by simpa using hz)
      · refine Or.inr ⟨?_, h2⟩
        intro y hy
        rcases List.mem_cons.1 hy with e | e
        · rw [e]; exact h
        · exact h1 y e
theorem kOf_first (x : Int) (hx : 0 ≤ x) (sts : List St) (hk : ∀ y ∈ sts, 0 ≤ y.kind) : (0 ≤ kOf x (dress sts) ↔ firstOf (rulesOf sts).nm x sts.length < sts.length) ∧ (firstOf (rulesOf sts).nm x sts.length < sts.length → kOf x (dress sts) = (rulesOf sts).kd (firstOf (rulesOf sts).nm x sts.length)) := by
  obtain ⟨f1, f2⟩ := firstOf_spec (rulesOf sts).nm x sts.length
  rcases kOf_spec x sts with ⟨j, y, h1, h2, h3, h4⟩ | ⟨h1, h2⟩
  · have hj := (List.getElem?_eq_some_iff.1 h1).1
    have hnj := (rules_at h1).1
    have hlt : firstOf (rulesOf sts).nm x sts.length < sts.length := by
      by_cases c : firstOf (rulesOf sts).nm x sts.length < sts.length
      · exact c
      · exact absurd (hnj.trans h2) ((f2 c).2 j hj)
    obtain ⟨g1, g2⟩ := f1 hlt
    have e : firstOf (rulesOf sts).nm x sts.length = j := by
      generalize firstOf (rulesOf sts).nm x sts.length = q at *
      by_cases c : q < j
      · obtain ⟨z, hz⟩ : ∃ z, sts[q]? = some z := ⟨_, List.getElem?_eq_getElem hlt⟩
        exact absurd ((rules_at hz).1.symm.trans g1) (h3 q z c hz)
      · by_cases d : j < q
        · exact absurd (hnj.trans h2) (g2 j d)
        · omega
    refine ⟨⟨fun _ => hlt, fun _ => by rw [h4]; exact hk y (List.mem_of_getElem? h1)⟩, fun _ => ?_⟩
    rw [e, (rules_at h1).2.1, h4]
  · have hnl : ¬ firstOf (rulesOf sts).nm x sts.length < sts.length := by
      intro c
      obtain ⟨z, hz⟩ : ∃ z, sts[firstOf (rulesOf sts).nm x sts.length]? = some z := ⟨_, List.getElem?_eq_getElem c⟩
      exact h1 z (List.mem_of_getElem? hz) ((rules_at hz).1.symm.trans (f1 c).1)
    exact ⟨⟨fun h => by rw [h2] at h; omega, fun h => absurd h hnl⟩, fun h => absurd h hnl⟩
/-- What is known of a step that was read. -/
structure StY (y : St) : Prop where
  kind : 0 ≤ y.kind ∧ y.kind ≤ 4
  name : y.name = -1 ∨ (0 ≤ y.name ∧ y.name < 26)
  terms : ∀ q ∈ termsOf y, (0 ≤ q.1 ∧ q.1 ≤ 27) ∧ 0 ≤ q.2 ∧ q.2 ≤ 3
def hkP (l : List Int) (a : Int) : Prop := 0 ≤ hasF l a
def hgP (l : List Int) (a f : Int) : Prop := 0 ≤ f ∧ f ≤ hasF l a
def hfP (l : List Int) (a f : Int) : Prop := hasFd l a f = true
theorem schema_all {l : List Int} (h : schemaB l = true) : (∀ c ∈ l, 48 ≤ c ∧ c ≤ 51) ∧ 0 < l.length ∧ l.length ≤ 4 := by
  simp only [schemaB, Bool.and_eq_true, decide_eq_true_eq, List.all_eq_true] at h
  refine ⟨fun c hc => ?_, h.1.2, h.2⟩
  have := h.1.1 c hc
  simp at this
  omega
theorem scF_nonneg {l : List Int} (h : schemaB l = true) (k : Nat) : 0 ≤ scF l k := by
  unfold scF
  split
  · rename_i hk
    have := (schema_all h).1 l[k] (List.getElem_mem hk)
    omega
  · omega
theorem hasF_in {l : List Int} {a : Int} (h : 0 ≤ a ∧ a < l.length) (h4 : ¬ a = 4) : hasF l a = scF l a.toNat := by
  have hk : a.toNat < l.length := by omega
  simp only [hasF, if_neg h4, if_pos h, scF, hk, dif_pos]
  rw [List.getD_eq_getElem?_getD, List.getElem?_eq_getElem hk]
  rfl
theorem hkP_iff {l : List Int} (h : schemaB l = true) (a : Int) : hkP l a ↔ a = 4 ∨ hasK l a = true := by
  obtain ⟨h1, h2, h3⟩ := schema_all h
  unfold hkP hasK
  simp only [Bool.and_eq_true, decide_eq_true_eq]
  by_cases h4 : a = 4
  · subst h4; simp [hasF]
  · by_cases hi : 0 ≤ a ∧ a < l.length
    · rw [hasF_in hi h4]
      exact ⟨fun _ => Or.inr hi, fun _ => scF_nonneg h _⟩
    · simp only [hasF, if_neg h4, if_neg hi]
      constructor
      · intro h; omega
      · rintro (h | h)
        · exact absurd h h4
        · exact absurd h hi
theorem hfg_all {l : List Int} (h : schemaB l = true) (a f : Int) (ha : hkP l a) : hfP l a f ↔ hgP l a f := by
  obtain ⟨h1, h2, h3⟩ := schema_all h
  unfold hfP hgP hasFd
  simp only [Bool.or_eq_true, Bool.and_eq_true, decide_eq_true_eq]
  rcases (hkP_iff h a).1 ha with h4 | hk
  · subst h4
    have e4 : hasK l 4 = false := by simp [hasK]; omega
    have e5 : hasF l 4 = 0 := by simp [hasF]
    rw [e4, e5]
    simp
    omega
  · by_cases h4 : a = 4
    · subst h4
      have : ¬ hasK l 4 = true := by simp [hasK]; omega
      exact absurd hk this
    · have hi : 0 ≤ a ∧ a < l.length := by simpa [hasK] using hk
      rw [hasF_in hi h4]
      have := scF_nonneg h a.toNat
      simp only [hk, true_and]
      omega
section
variable {t : AltOf (Atom 8)} {l : List Int}
theorem right_doc (hall : ∀ y ∈ altS (atomS 8) t.1 t.2, StY y) (k : Nat) (y : St) (hy : (altS (atomS 8) t.1 t.2)[k]? = some y) :
    RightP (hasF l) (altP (atomP 8) (atomS 8) t.1 t.2 0 0) ((altP (atomP 8) (atomS 8) t.1 t.2 0 0).length - 1) (dress (altS (atomS 8) t.1 t.2)) (es0 (altP (atomP 8) (atomS 8) t.1 t.2 0 0)) 0 k y ↔
    rightG (rulesOf (altS (atomS 8) t.1 t.2)) (hkP l) (hgP l) (altT (atomT 8) t.1 t.2) (altT (atomT 8) t.1 t.2).H.cnt k := by
  obtain ⟨hwi, _, hcnt⟩ := top_dn t
  have hden := top_den t ((altP (atomP 8) (atomS 8) t.1 t.2 0 0).length - 1 + 1) 0 1 2 (by omega)
  have hok := altT_ok (atomT_ok 8) t.2 t.1
  have hes : es0 (altP (atomP 8) (atomS 8) t.1 t.2 0 0) = ((altT (atomT 8) t.1 t.2).P.pl 0 1 2 0).1.map toEd := by
    unfold es0; rw [hden]
  rw [hes, hcnt]
  have hPc : (altT (atomT 8) t.1 t.2).P.cnt = (altS (atomS 8) t.1 t.2).length := by rw [hok.both.cnt, hcnt]
  have hone := hok.both.ok.one 0 1 2 0
  have hhas := fun j h => hok.both.ok.has 0 1 2 0 j (Nat.zero_le _) h
  have hstp := hok.both.ok.steps 0 1 2 0
  rw [Nat.zero_add, hPc] at hhas
  rw [hPc] at hstp
  have hwk := hwi ((altP (atomP 8) (atomS 8) t.1 t.2 0 0).length - 1 + 1) k false (by omega)
  generalize (altP (atomP 8) (atomS 8) t.1 t.2 0 0) = ps at *
  generalize (altS (atomS 8) t.1 t.2) = sts at *
  generalize (altT (atomT 8) t.1 t.2) = T at *
  generalize hE : (T.P.pl 0 1 2 0).1 = E at *
  have hkl := (List.getElem?_eq_some_iff.1 hy).1
  obtain ⟨rn, rk, rt⟩ := rules_at hy
  have hY := hall y (List.mem_of_getElem? hy)
  obtain ⟨ek, hek, hekk⟩ := hhas k hkl
  have hedk := edOf_at hek hekk hone
  have hnm : ∀ (no : Int) (e : Eg), e ∈ E → (okE (dress sts) true no (toEd e) ↔ (e.st < 0 ∨ (fun i => decide (no < 0 ∨ ¬ (rulesOf sts).nm i = no)) e.st.toNat = true)) := by
    intro no e he
    unfold okE toEd
    simp only [true_and, decide_eq_true_eq]
    refine or_congr Iff.rfl (or_congr Iff.rfl ?_)
    rcases hstp e he with h | ⟨h0, h1⟩
    · rw [dress_get, h]
      have : sts[(-1 : Int).toNat]? = sts[0]? := rfl
      rw [this]
      cases h0 : sts[0]? with
      | none => rw [List.getElem?_eq_none_iff] at h0; omega
      | some z => 
        have := (rules_at h0).1
        simp only [Option.map_some, Option.some.injEq, forall_eq']
        rw [show (rulesOf sts).nm (-1 : Int).toNat = z.name from this]
    · obtain ⟨z, hz⟩ : ∃ z, sts[e.st.toNat]? = some z := ⟨_, List.getElem?_eq_getElem (by omega)⟩
      rw [dress_get, hz, (rules_at hz).1]
      simp
  unfold RightP rightG
  rw [hE, rn, rk, rt]
  refine and_congr Iff.rfl (and_congr ?_ ?_)
  · have h1 : (0 ≤ y.name → NameP ps (ps.length - 1) (dress sts) (E.map toEd) k y) ↔ (y.name = -1 ∨ NameP ps (ps.length - 1) (dress sts) (E.map toEd) k y) := by
      rcases hY.name with h | h
      · exact ⟨fun _ => Or.inl h, fun _ h0 => by omega⟩
      · exact ⟨fun h2 => Or.inr (h2 h.1), fun h2 _ => h2.resolve_left (by omega)⟩
    rw [h1]
    refine or_congr Iff.rfl ?_
    unfold NameP
    rw [hwk]
    have hd : decide (0 ≤ k ∧ k < 0 + T.H.cnt) = true := by simp; omega
    rw [hd, Bool.true_and]
    refine and_congr Iff.rfl (and_congr (not_congr ?_) ?_)
    · unfold MaybeP
      rw [hedk]
      constructor
      · rintro ⟨i, x, hx, hn, hr⟩
        rw [dress_get] at hx
        obtain ⟨z, hz, rfl⟩ := Option.map_eq_some_iff.1 hx
        have hil := (List.getElem?_eq_some_iff.1 hz).1
        obtain ⟨d, hd, hdi⟩ := hhas i hil
        refine ⟨i, hil, (rules_at hz).1.trans hn, d, hd, hdi, ek, hek, hekk, ?_⟩
        rw [edOf_at hd hdi hone] at hr
        simp only [toEd, Int.toNat_natCast] at hr
        refine (rc_iff (ok := allOk) ?_ d.to ek.fr).1 hr
        intro e he
        rw [hnm (-1) e he]
        simp [allOk]
      · rintro ⟨i, hil, hn, d, hd, hdi, e, he, hee, hr⟩
        obtain ⟨z, hz⟩ : ∃ z, sts[i]? = some z := ⟨_, List.getElem?_eq_getElem hil⟩
        refine ⟨i, (z, Value.bool false), by rw [dress_get, hz]; rfl, (rules_at hz).1.symm.trans hn, ?_⟩
        have : e = ek := hone e he ek hek (by omega) (by omega)
        subst this
        rw [edOf_at hd hdi hone]
        simp only [toEd, Int.toNat_natCast]
        refine (rc_iff (ok := allOk) ?_ d.to e.fr).2 hr
        intro e' he'
        have := hnm (-1) e' he'
        simp only [toEd] at this
        show okE (dress sts) true (-1) (toEd e') ↔ _
        rw [hnm (-1) e' he']
        simp [allOk]
    · constructor
      · intro h i hi hn
        obtain ⟨z, hz⟩ : ∃ z, sts[i]? = some z := ⟨_, List.getElem?_eq_getElem (by omega)⟩
        rw [(rules_at hz).2.1]
        exact h i (z, Value.bool false) hi (by rw [dress_get, hz]; rfl) ((rules_at hz).1.symm.trans hn)
      · intro h i x hi hx hn
        rw [dress_get] at hx
        obtain ⟨z, hz, rfl⟩ := Option.map_eq_some_iff.1 hx
        have := h i hi ((rules_at hz).1.trans hn)
        rw [(rules_at hz).2.1] at this
        exact this
  · have hread : ∀ of fd : Int, 0 ≤ of → 0 ≤ fd → (ReadP (hasF l) (dress sts) (E.map toEd) 0 k y.kind of fd ↔ (of = 0 ∨ (of = 1 ∧ hgP l y.kind fd) ∨ (2 ≤ of ∧ (¬ ∃ e ∈ E, e.st = (k : Int) ∧ Reach (fun i => decide (¬ (rulesOf sts).nm i = of - 2)) E 0 e.fr) ∧ firstOf (rulesOf sts).nm (of - 2) sts.length < sts.length ∧ hgP l ((rulesOf sts).kd (firstOf (rulesOf sts).nm (of - 2) sts.length)) fd))) := by
      intro of fd hof hfd
      unfold ReadP hgP
      refine or_congr Iff.rfl (or_congr (and_congr Iff.rfl ⟨fun h => ⟨hfd, h⟩, fun h => h.2⟩) ?_)
      rw [hedk]
      by_cases h2 : 2 ≤ of
      · obtain ⟨k1, k2⟩ := kOf_first (of - 2) (by omega) sts (fun y hy => (hall y hy).kind.1)
        have hrc : Rc (okE (dress sts) true (of - 2)) (E.map toEd) 0 (toEd ek).fr.toNat ↔ ∃ e ∈ E, e.st = (k : Int) ∧ Reach (fun i => decide (¬ (rulesOf sts).nm i = of - 2)) E 0 e.fr := by
          have e1 : (toEd ek).fr.toNat = ek.fr := by simp [toEd]
          rw [e1, rc_iff (ok := fun i => decide (¬ (rulesOf sts).nm i = of - 2)) (fun e he => by
            rw [hnm (of - 2) e he]
            have : ¬ of - 2 < 0 := by omega
            simp [this]) 0 ek.fr]
          constructor
          · intro h; exact ⟨ek, hek, hekk, h⟩
          · rintro ⟨e, he, hee, h⟩
            have : e = ek := hone e he ek hek (by omega) (by omega)
            rw [← this]; exact h
        rw [hrc, k1]
        constructor
        · rintro ⟨_, _, h3, h4, h5⟩
          exact ⟨h2, h3, h4, hfd, by rw [← k2 h4]; exact h5⟩
        · rintro ⟨_, h3, h4, _, h5⟩
          exact ⟨by omega, by omega, h3, h4, by rw [k2 h4]; exact h5⟩
      · constructor
        · rintro ⟨h3, h4, _⟩; omega
        · rintro ⟨h3, _⟩; exact absurd h3 h2
    constructor
    · intro h q hq
      obtain ⟨tt, ht, hqt⟩ := List.mem_flatMap.1 hq
      obtain ⟨a, b, c⟩ := h tt ht
      have hb := hY.terms q hq
      simp only [List.mem_cons, List.not_mem_nil, or_false] at hqt
      rcases hqt with e | e | e
      all_goals
        subst e
        first
        | exact (hread _ _ hb.1.1 hb.2.1).1 a
        | exact (hread _ _ hb.1.1 hb.2.1).1 b
        | exact (hread _ _ hb.1.1 hb.2.1).1 c
    · intro h tt ht
      have m1 : (tt.left.of, tt.left.field) ∈ termsOf y := List.mem_flatMap.2 ⟨tt, ht, by simp⟩
      have m2 : (tt.right.of, tt.right.field) ∈ termsOf y := List.mem_flatMap.2 ⟨tt, ht, by simp⟩
      have m3 : (tt.more.of, tt.more.field) ∈ termsOf y := List.mem_flatMap.2 ⟨tt, ht, by simp⟩
      have b1 := hY.terms _ m1
      have b2 := hY.terms _ m2
      have b3 := hY.terms _ m3
      exact ⟨(hread _ _ b1.1.1 b1.2.1).2 (h _ m1), (hread _ _ b2.1.1 b2.2.1).2 (h _ m2), (hread _ _ b3.1.1 b3.2.1).2 (h _ m3)⟩
end
end Go.Proofs.YtcboiapggnmpfaaGreat

namespace Go.Proofs.YtcboiapggnmpfaaGreat
set_option linter.unusedVariables false

theorem fieldV_le (c : Int) : 0 ≤ fieldV c ∧ fieldV c ≤ 3 := by
  unfold fieldV
  split
  · omega
  · split
    · omega
    · split <;> omega
theorem yTm_all {t : Tm} {u : List Tok} (h : yTm t u) : (0 ≤ t.of ∧ t.of ≤ 27) ∧ 0 ≤ t.field ∧ t.field ≤ 3 := by
  rcases h with ⟨_, _, _, e⟩ | ⟨c, p, _, _, e⟩ | ⟨n, p, c, q, _, hn, _, e⟩
  · subst e; simp
  · subst e; have := fieldV_le c; simp; omega
  · subst e
    have := fieldV_le c
    rw [isName_iff] at hn
    simp only
    omega
theorem yTst_all {t : Tst} {u : List Tok} (h : yTst t u) : ∀ q ∈ [(t.left.of, t.left.field), (t.right.of, t.right.field), (t.more.of, t.more.field)], (0 ≤ q.1 ∧ q.1 ≤ 27) ∧ 0 ≤ q.2 ∧ q.2 ≤ 3 := by
  obtain ⟨a, r, p, b, ya, yb, _, _, h⟩ := h
  have h3 : (0 ≤ t.more.of ∧ t.more.of ≤ 27) ∧ 0 ≤ t.more.field ∧ t.more.field ≤ 3 := by
    rcases h with ⟨_, _, e⟩ | ⟨d, q, m, _, ym, _, _⟩
    · rw [e]; simp [tm0]
    · exact yTm_all ym
  intro q hq
  simp only [List.mem_cons, List.not_mem_nil, or_false] at hq
  rcases hq with e | e | e
  · subst e; exact yTm_all ya
  · subst e; exact yTm_all yb
  · subst e; exact h3
theorem yTsts_all : ∀ (ts : List Tst) (u : List Tok), yTsts ts u → ∀ t ∈ ts, ∃ v, yTst t v := by
  intro ts
  induction ts with
  | nil => intro u h q hq; cases hq
  | cons t ts ih =>
    intro u h q hq
    cases ts with
    | nil =>
      obtain ⟨a, p, ha, _⟩ := h
      rw [List.mem_singleton.1 hq]; exact ⟨a, ha⟩
    | cons t2 ts =>
      obtain ⟨a, p, v, ha, _, hv⟩ := h
      rcases List.mem_cons.1 hq with e | e
      · rw [e]; exact ⟨a, ha⟩
      · exact ih v hv q e
theorem sty_of {y : St} {u : List Tok} (h : ySt y u) : StY y := by
  obtain ⟨c, a, b, _, hc, hk, hn, hb⟩ := h
  refine ⟨by rw [hk]; exact kindV_bounds hc, ?_, ?_⟩
  · rcases hn with ⟨h, _⟩ | ⟨n, p, h1, _, h2⟩
    · exact Or.inl h
    · rw [isName_iff] at h1
      exact Or.inr (by omega)
  · intro q hq
    obtain ⟨t, ht, hqt⟩ := List.mem_flatMap.1 hq
    rcases hb with ⟨e, _⟩ | ⟨p, v, _, hv⟩
    · rw [e] at ht; cases ht
    · obtain ⟨w, hw⟩ := yTsts_all _ _ hv t ht
      exact yTst_all hw q hqt
theorem alt_sty {s : ByteArray} {t : AltOf (Atom 8)} {o : Option Int} {x : List Tok} (hp : pTopOf (pAtom 8) (toks 0 (bI s)) = (some (t, o), x)) : (∀ y ∈ altS (atomS 8) t.1 t.2, StY y) ∧ (altTr (atomTr 8) t).Reps := by
  obtain ⟨u, ⟨v, r, e, h1, h2⟩, _⟩ := pTop_y hp
  refine ⟨?_, alt_reps (atom_reps 8) t u ⟨v, r, e, h1, h2⟩⟩
  intro y hy
  obtain ⟨z, hz, _⟩ := alt_steps (atom_steps 8) t.2 t.1 v r h1 h2 y hy
  exact sty_of hz
/-- Too large, as the program reckons. -/
def LargeP (t : Nt) (sts : List St) : Prop := 4 < (slotsTo (dress sts) sts.length).length ∨ (∃ y ∈ sts, 4 < y.tests.length) ∨ 24 < t.long
/-- What the program answers of a text that was read. -/
def ProgT (l : List Int) (t : AltOf (Atom 8)) (f p : Int) : Prop :=
  (∃ k y, (altS (atomS 8) t.1 t.2)[k]? = some y ∧ ¬ rightS (rulesOf (altS (atomS 8) t.1 t.2)) (hkP l) (hfP l) (altT (atomT 8) t.1 t.2) k ∧ (∀ j, j < k → rightS (rulesOf (altS (atomS 8) t.1 t.2)) (hkP l) (hfP l) (altT (atomT 8) t.1 t.2) j) ∧ f = 4 ∧ p = y.pos) ∨
  ((∀ j, j < (altS (atomS 8) t.1 t.2).length → rightS (rulesOf (altS (atomS 8) t.1 t.2)) (hkP l) (hfP l) (altT (atomT 8) t.1 t.2) j) ∧ LargeP (altTr (atomTr 8) t) (altS (atomS 8) t.1 t.2) ∧ f = 5 ∧ p = 0) ∨
  ((∀ j, j < (altS (atomS 8) t.1 t.2).length → rightS (rulesOf (altS (atomS 8) t.1 t.2)) (hkP l) (hfP l) (altT (atomT 8) t.1 t.2) j) ∧ ¬ LargeP (altTr (atomTr 8) t) (altS (atomS 8) t.1 t.2) ∧ f = 0 ∧ p = 0)
theorem nm_pos {sts : List St} (h : ∀ y ∈ sts, StY y) (i : Nat) : (rulesOf sts).nm i = -1 ∨ 0 ≤ (rulesOf sts).nm i := by
  cases hi : sts[i]? with
  | none => left; simp [rulesOf, hi]
  | some y =>
    rw [(rules_at hi).1]
    rcases (h y (List.mem_of_getElem? hi)).name with h | h
    · exact Or.inl h
    · exact Or.inr h.1
theorem large_iff (t : AltOf (Atom 8)) : LargeP (altTr (atomTr 8) t) (altS (atomS 8) t.1 t.2) ↔ ¬ SmallT (altP (atomP 8) (atomS 8) t.1 t.2 0 0) (altS (atomS 8) t.1 t.2) := by
  have hlg := (top_dn t).2.1 ((altP (atomP 8) (atomS 8) t.1 t.2 0 0).length - 1 + 1) (by omega)
  unfold LargeP SmallT
  rw [hlg]
  constructor
  · rintro (h | ⟨y, hy, h⟩ | h) ⟨h1, h2, h3⟩
    · omega
    · have := h1 y hy; omega
    · omega
  · intro h
    by_cases h1 : ∃ y ∈ altS (atomS 8) t.1 t.2, 4 < y.tests.length
    · exact Or.inr (Or.inl h1)
    · by_cases h2 : 24 < (altTr (atomTr 8) t).long
      · exact Or.inr (Or.inr h2)
      · by_cases h3 : 4 < (slotsTo (dress (altS (atomS 8) t.1 t.2)) (altS (atomS 8) t.1 t.2).length).length
        · exact Or.inl h3
        · refine absurd ⟨?_, by omega, by omega⟩ h
          intro y hy
          apply Classical.byContradiction
          intro hc
          exact h1 ⟨y, hy, by omega⟩
theorem prog_check {s : ByteArray} {t : AltOf (Atom 8)} {o : Option Int} {x : List Tok} (hp : pTopOf (pAtom 8) (toks 0 (bI s)) = (some (t, o), x)) {l : List Int} (hl : schemaB l = true) {f p : Int} (h : ProgT l t f p) : CheckT (hasF l) (altP (atomP 8) (atomS 8) t.1 t.2 0 0) (altS (atomS 8) t.1 t.2) f p := by
  have hY := (alt_sty hp).1
  have hok := altT_ok (atomT_ok 8) t.2 t.1
  have hcnt := (top_dn t).2.2
  have hR := fun k y hy => right_doc (l := l) hY k y hy
  have hiff := fun k hk hS => right_iff (R := rulesOf (altS (atomS 8) t.1 t.2)) hok (hfg_all hl) (nm_pos hY) k hk hS
  have hLa := large_iff t
  rw [hcnt] at hiff
  unfold ProgT at h
  generalize (altP (atomP 8) (atomS 8) t.1 t.2 0 0) = ps at *
  generalize (altS (atomS 8) t.1 t.2) = sts at *
  generalize (altT (atomT 8) t.1 t.2) = T at *
  rw [hcnt] at hR
  have hup : ∀ k, (∀ j, j < k → rightS (rulesOf sts) (hkP l) (hfP l) T j) → ∀ j z, j < k → sts[j]? = some z → RightP (hasF l) ps (ps.length - 1) (dress sts) (es0 ps) 0 j z := by
    intro k hk j z hj hz
    have hjl := (List.getElem?_eq_some_iff.1 hz).1
    exact (hR j z hz).2 ((hiff j hjl (fun i hi => hk i (by omega))).1 (hk j hj))
  have hup' : (∀ j, j < sts.length → rightS (rulesOf sts) (hkP l) (hfP l) T j) → ∀ j z, sts[j]? = some z → RightP (hasF l) ps (ps.length - 1) (dress sts) (es0 ps) 0 j z :=
    fun hk j z hz => hup sts.length hk j z (List.getElem?_eq_some_iff.1 hz).1 hz
  rcases h with ⟨k, y, hy, hn, hb, h1, h2⟩ | ⟨h1, h2, h3, h4⟩ | ⟨h1, h2, h3, h4⟩
  · have hkl := (List.getElem?_eq_some_iff.1 hy).1
    exact Or.inl ⟨k, y, hy, fun h => hn ((hiff k hkl hb).2 ((hR k y hy).1 h)), hup k hb, h1, h2⟩
  · exact Or.inr (Or.inl ⟨hup' h1, hLa.1 h2, h3, h4⟩)
  · exact Or.inr (Or.inr ⟨hup' h1, by apply Classical.byContradiction; intro h; exact h2 (hLa.2 h), h3, h4⟩)
theorem CheckT.uniq {hs : Int → Int} {ps : List Pt} {sts : List St} {f p f' p' : Int} (h : CheckT hs ps sts f p) (h' : CheckT hs ps sts f' p') : f = f' ∧ p = p' := by
  rcases h with ⟨k, y, hy, hn, hb, h1, h2⟩ | ⟨h1, h2, h3, h4⟩ | ⟨h1, h2, h3, h4⟩
  · rcases h' with ⟨k', y', hy', hn', hb', h1', h2'⟩ | ⟨h1', h2', h3', h4'⟩ | ⟨h1', h2', h3', h4'⟩
    · have e : k = k' := by
        by_cases c : k < k'
        · exact absurd (hb' k y c hy) hn
        · by_cases d : k' < k
          · exact absurd (hb k' y' d hy') hn'
          · omega
      subst e
      rw [hy] at hy'
      simp only [Option.some.injEq] at hy'
      subst hy'
      exact ⟨by rw [h1, h1'], by rw [h2, h2']⟩
    · exact absurd (h1' k y hy) hn
    · exact absurd (h1' k y hy) hn
  · rcases h' with ⟨k', y', hy', hn', hb', h1', h2'⟩ | ⟨h1', h2', h3', h4'⟩ | ⟨h1', h2', h3', h4'⟩
    · exact absurd (h1 k' y' hy') hn'
    · exact ⟨by rw [h3, h3'], by rw [h4, h4']⟩
    · exact absurd h2' h2
  · rcases h' with ⟨k', y', hy', hn', hb', h1', h2'⟩ | ⟨h1', h2', h3', h4'⟩ | ⟨h1', h2', h3', h4'⟩
    · exact absurd (h1 k' y' hy') hn'
    · exact absurd h2 h2'
    · exact ⟨by rw [h3, h3'], by rw [h4, h4']⟩
theorem CheckIs.uniq {sc s : ByteArray} {f p f' p' : Int} (h : CheckIs sc s f p) (h' : CheckIs sc s f' p') : f = f' ∧ p = p' := by
  rcases h with ⟨a, b, c⟩ | ⟨a, b, c, d⟩ | ⟨a, b, x, c, d, e⟩ | ⟨a, b, t, o, x, c, d⟩
  · rcases h' with ⟨a', b', c'⟩ | ⟨a', b', c', d'⟩ | ⟨a', b', x', c', d', e'⟩ | ⟨a', b', t', o', x', c', d'⟩
    · exact ⟨by rw [b, b'], by rw [c, c']⟩
    · omega
    · omega
    · omega
  · rcases h' with ⟨a', b', c'⟩ | ⟨a', b', c', d'⟩ | ⟨a', b', x', c', d', e'⟩ | ⟨a', b', t', o', x', c', d'⟩
    · omega
    · exact ⟨by rw [c, c'], by rw [d, d']⟩
    · rw [b] at b'; cases b'
    · rw [b] at b'; cases b'
  · rcases h' with ⟨a', b', c'⟩ | ⟨a', b', c', d'⟩ | ⟨a', b', x', c', d', e'⟩ | ⟨a', b', t', o', x', c', d'⟩
    · omega
    · rw [b] at b'; cases b'
    · rw [c] at c'
      simp only [Prod.mk.injEq, true_and] at c'
      exact ⟨by rw [d, d'], by rw [e, e', c']⟩
    · rw [c] at c'; simp at c'
  · rcases h' with ⟨a', b', c'⟩ | ⟨a', b', c', d'⟩ | ⟨a', b', x', c', d', e'⟩ | ⟨a', b', t', o', x', c', d'⟩
    · omega
    · rw [b] at b'; cases b'
    · rw [c] at c'; simp at c'
    · rw [c] at c'
      simp only [Prod.mk.injEq, Option.some.injEq] at c'
      obtain ⟨⟨rfl, rfl⟩, rfl⟩ := c'
      exact d.uniq d'
end Go.Proofs.YtcboiapggnmpfaaGreat
