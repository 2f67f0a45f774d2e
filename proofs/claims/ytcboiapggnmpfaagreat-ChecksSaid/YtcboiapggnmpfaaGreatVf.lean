/- Walks: spotterref: Valid. -/
import Derived.Test.YtcboiapggnmpfaaGreatQb
import Derived.Test.YtcboiapggnmpfaaGreatVc
import Derived.Test.YtcboiapggnmpfaaGreatQa
namespace Go.Proofs.YtcboiapggnmpfaaGreat
open Go.RowKit
set_option linter.unusedSimpArgs false
set_option linter.unusedVariables false

/-- A list of instructions that is handed in: where it is not empty it lies in a block. -/
def CodeP (w : World) (p : Option Addr) (l : List In) : Prop := ¬ l = [] → ∃ g, p = some ⟨g, 0, none⟩ ∧ Code' w g l
theorem CodeP.nw {w w' : World} {p : Option Addr} {l : List In} (h : CodeP w p l) (k : Nw w w') : CodeP w' p l := by
  intro hne
  obtain ⟨g, e, hc⟩ := h hne
  exact ⟨g, e, hc.kp k (fun h => h)⟩
def ValidPost (w : World) (l : List In) (e : Ending) (w' : World) : Prop := ∃ a b, e = .returned (.tuple #[.int .i64 a, .int .i64 b]) ∧ ValidIs l a b ∧ Nw w w'
theorem eqb_false {a b : Int} (h : ¬ a = b) : (a == b) = false := by simp [h]
set_option maxRecDepth 100000 in
set_option maxHeartbeats 1000000 in
theorem validR_any (p : Option Addr) (cap : Nat) (l : List In) (w : World) (hp : CodeP w p l) (hm : l.length ≤ maxLen) :
    Calls Tryz.prog 66 #[.slice p l.length cap] w (ValidPost w l) := by
  unfold maxLen at hm
  by_cases hbig : 1000 < l.length
  · go_enter Tryz.func66, Tryz.ntmps66
    go_wp2
    go_ret2
    exact ⟨5, 0, rfl, Or.inl ⟨hbig, rfl, rfl⟩, Kp.refl _ _⟩
  by_cases hnil : l = []
  · subst hnil
    go_enter Tryz.func66, Tryz.ntmps66
    go_wp2
    go_ret2
    exact ⟨7, 0, rfl, Or.inr (Or.inl ⟨by simp, Or.inl rfl, rfl, rfl⟩), Kp.refl _ _⟩
  obtain ⟨g, rfl, hc⟩ := hp hnil
  have hl := hc.lt
  have hpos : 0 < l.length := List.length_pos_iff.2 hnil
  have hn : l.length ≤ 1000 := by omega
  have hz : ((l.length : Int) == 0) = false := eqb_false (by omega)
  clear hp
  go_enter Tryz.func66, Tryz.ntmps66
  go_wp2
  go_loopg [4] l.length (fun m v4 wr => ∃ i : Nat, v4 = .int .i64 i ∧ m = l.length - i ∧ i ≤ l.length ∧ noneFrom l.length i (l.drop i) = firstNone l ∧ Code' wr g l ∧ Nw w wr)
  case atStart => exact ⟨0, rfl, rfl, by omega, rfl, hc, Kp.refl _ _⟩
  case round =>
    obtain ⟨i, rfl, hm', hi, hfn, hcr, hnw⟩ := hrel
    by_cases hi' : i < l.length
    · obtain ⟨x, hx⟩ : ∃ x, l[i]? = some x := ⟨l[i], by simp [hi']⟩
      obtain ⟨c0, c1, c2, c3, c4, c5, c6, c7, c8, c9, c10, c11, c12, c13⟩ := (hcr.ins i x hx).cells
      rw [drop_cons hx] at hfn
      generalize hT : insIsB x (l.length : Int) = T
      go_wp2_with fail
      refine (isInsR_any x l.length wr).mono ?_
      rw [hT]
      rintro e w2 ⟨rfl, k2⟩
      have HC : Hid (Code' w2 g l) := hcr.kp k2 (fun h => h)
      have HK : Hid (Nw w w2) := hnw.trans k2
      have HF : Hid (noneFrom l.length i (x :: l.drop (i + 1)) = firstNone l) := hfn
      have HT : Hid (insIsB x (l.length : Int) = T) := hT
      have d0 : w2.cell? ⟨g, i * 14, none⟩ = some (.int .i64 x.op) := (k2.cell (p := ⟨g, i * 14, none⟩) hcr.lt (fun h => h)).trans c0
      clear c0 c1 c2 c3 c4 c5 c6 c7 c8 c9 c10 c11 c12 c13 hcr hnw k2 hfn hT
      have hop : (x.op == 4) = true ∨ ((x.op == 4) = false ∧ (x.op == 5) = true) ∨ ((x.op == 4) = false ∧ (x.op == 5) = false) := by
        cases (x.op == 4) <;> cases (x.op == 5) <;> simp
      cases T with
      | false =>
        have hstop : Hid (firstNone l = i) := by
          show _ = _
          rw [← HF.out]; exact noneFrom_stop (by rw [HT.out]; simp)
        rcases hop with hop | ⟨hop, hop2⟩ | ⟨hop, hop2⟩
        all_goals
          go_wp2
          go_ret2
          exact ⟨7, i, rfl, Or.inr (Or.inl ⟨hn, Or.inr (by rw [hstop.out]; exact hi'), rfl, by rw [hstop.out]⟩), HK.out⟩
      | true =>
        by_cases hlast : i + 1 = l.length
        · have hl1 : ((i : Int) == (l.length : Int) - 1) = true := by simp; omega
          by_cases hE : endsB x = true
          · have hgo : Hid (noneFrom l.length (i + 1) (l.drop (i + 1)) = firstNone l) := by
              show _ = _
              rw [← HF.out]; exact (noneFrom_step HT.out (fun _ => hE)).symm
            have hq : x.op = 4 ∨ x.op = 5 ∨ x.op = 6 := by simp [endsB] at hE; omega
            clear hop
            rcases hq with hq | hq | hq
            all_goals
              rw [hq] at d0
              go_wp2
              go_roundg (l.length - (i + 1))
              case measure => omega
              case rel => exact ⟨i + 1, by simp, rfl, by omega, hgo.out, HC.out, HK.out⟩
          · have hstop : Hid (firstNone l = i) := by
              show _ = _
              rw [← HF.out]; exact noneFrom_stop (fun h => hE (h.2 hlast))
            have hq : (x.op == 4) = false ∧ (x.op == 5) = false ∧ (x.op == 6) = false := by simp [endsB] at hE; simp; omega
            obtain ⟨q4, q5, q6⟩ := hq
            clear hop
            go_wp2
            go_ret2
            exact ⟨7, i, rfl, Or.inr (Or.inl ⟨hn, Or.inr (by rw [hstop.out]; exact hi'), rfl, by rw [hstop.out]⟩), HK.out⟩
        · have hl1 : ((i : Int) == (l.length : Int) - 1) = false := eqb_false (by omega)
          have hgo : Hid (noneFrom l.length (i + 1) (l.drop (i + 1)) = firstNone l) := by
            show _ = _
            rw [← HF.out]; exact (noneFrom_step HT.out (fun e => absurd e hlast)).symm
          rcases hop with hop | ⟨hop, hop2⟩ | ⟨hop, hop2⟩
          all_goals
            go_wp2
            go_roundg (l.length - (i + 1))
            case measure => omega
            case rel => exact ⟨i + 1, by simp, rfl, by omega, hgo.out, HC.out, HK.out⟩
    · have hfull : firstNone l = l.length := by
        rw [← hfn, List.drop_eq_nil_of_le (by omega)]
        simp [noneFrom]; omega
      have hA : AllIns l := allIns_of hfull
      have HC : Hid (Code' wr g l) := hcr
      have HK : Hid (Nw w wr) := hnw
      have HF : Hid (firstNone l = l.length) := hfull
      have HA : Hid (AllIns l) := hA
      clear hcr hnw hfull hA hfn
      go_wp2
      go_loopg [7] l.length (fun m v7 wr => ∃ i : Nat, v7 = .int .i64 i ∧ m = l.length - i ∧ i ≤ l.length ∧ (∀ j, j < i → ¬ Rch l false j j) ∧ Code' wr g l ∧ Nw w wr)
      case atStart => exact ⟨0, rfl, rfl, by omega, (fun j hj => by omega), HC.out, HK.out⟩
      case round =>
        obtain ⟨k, rfl, hm2, hk, hno, hcr, hnw⟩ := hrel
        have HN : Hid (∀ j, j < k → ¬ Rch l false j j) := hno
        clear hno
        by_cases hk' : k < l.length
        · obtain ⟨x, hx⟩ : ∃ x, l[k]? = some x := ⟨l[k], by simp [hk']⟩
          have c0 := (hcr.ins k x hx).cells.1
          by_cases h0 : x.op = 0
          · have hnr : ¬ Rch l false k k := rch_take hx h0
            rw [h0] at c0
            go_wp2
            go_roundg (l.length - (k + 1))
            case measure => omega
            case rel =>
              refine ⟨k + 1, by simp, rfl, by omega, ?_, hcr, hnw⟩
              intro j hj
              by_cases e : j = k
              · subst e; exact hnr
              · exact HN.out j (by omega)
          · have h0' : (x.op != 0) = true := by simp [h0]
            go_wp2_with fail
            refine (reachedR_any g cap k l false wr hcr HA.out hk' hn).mono ?_
            rintro e w2 ⟨bs, rfl, hrow, hbl, hbs, k2⟩
            obtain ⟨b, hb⟩ : ∃ b, bs[k]? = some b := ⟨bs[k]'(by rw [hbl]; exact hk'), by simp [hbl, hk']⟩
            have cb : w2.cell? ⟨wr.heap.size, k, none⟩ = some (.bool b) := by rw [hrow.cell]; simp [hb]
            have HC2 : Hid (Code' w2 g l) := hcr.kp k2 (fun h => h)
            have HK2 : Hid (Nw w w2) := hnw.trans k2
            have HB : Hid (bs[k]? = some true ↔ Rch l false k k) := hbs k
            have HBB : Hid (bs[k]? = some b) := hb
            clear hrow hbs hcr hnw k2 hb c0
            cases b with
            | true =>
              go_wp2
              go_ret2
              exact ⟨8, k, rfl, Or.inr (Or.inr (Or.inl ⟨hn, hnil, HF.out, k, rnd_from HN.out hk' (HB.out.1 HBB.out), hk', rfl, rfl⟩)), HK2.out⟩
            | false =>
              go_wp2
              go_roundg (l.length - (k + 1))
              case measure => omega
              case rel =>
                refine ⟨k + 1, by simp, rfl, by omega, ?_, HC2.out, HK2.out⟩
                intro j hj
                by_cases e : j = k
                · subst e
                  intro hr
                  have h1 := HB.out.2 hr
                  have h2 := HBB.out
                  rw [h1] at h2
                  cases h2
                · exact HN.out j (by omega)
        · go_wp2
          go_ret2
          have e : k = l.length := by omega
          have hno := HN.out
          rw [e] at hno
          exact ⟨0, 0, rfl, Or.inr (Or.inr (Or.inr ⟨hn, hnil, HF.out, rnd_none hno, rfl, rfl⟩)), hnw⟩
end Go.Proofs.YtcboiapggnmpfaaGreat
