/- Walks: spotterref: the cutter's alternatives; rows and alternatives of a depth. -/
import Derived.Test.YtcboiapggnmpfaaGreatCe
namespace Go.Proofs.YtcboiapggnmpfaaGreat
open Go.RowKit
set_option linter.unusedSimpArgs false
set_option linter.unusedVariables false

set_option maxRecDepth 100000 in
set_option maxHeartbeats 4000000 in
/-- An alternative: v is its first row, ahead of b; behind it the end, or a | and the others. -/
theorem wholeC_any (P : CuP) (B : Nat) (L : List Tok) (root win : Int) (lo hi b : Nat) (v : List Tok) (hb : lo + v.length = b) (hv : ScE v) (hS : Sub L lo v) (hhi : hi ≤ L.length) (pa np : Nat → Nat → List Pt) (sa ns : List St)
    (hA : CutOk 186 P B L root win lo b pa sa)
    (hR : (b = hi ∧ (∀ k m, np k m = pa k m) ∧ ns = sa) ∨
      (b < hi ∧ (∃ p, L[b]? = some (124, p)) ∧ ∃ pb sb, CutOk 143 P B L root win (b + 1) hi pb sb ∧ ns = sa ++ sb ∧ ∀ k m, np k m = pa k m ++ (pb (k + (pa k m).length) (m + sa.length) ++ [⟨2, (k : Int) + (pa k m).length - 1, (k : Int) + (pa k m).length + (pb (k + (pa k m).length) (m + sa.length)).length - 1, 0, 0, 0⟩]))) :
    CutOk 143 P B L root win lo hi np ns := by
  intro ps ss pv sv w h hN hM
  have H : Hid (TS w P B L pv sv root win ps ss) := h
  have c0 := h.cu.c0
  have hlen := h.cu.len
  have HA : Hid (CutOk 186 P B L root win lo b pa sa) := hA
  have hbh : b ≤ hi := by rcases hR with ⟨e, _⟩ | ⟨e, _⟩ <;> omega
  have HRR : Hid ((b = hi ∧ np ps.length ss.length = pa ps.length ss.length ∧ ns = sa) ∨
      (b < hi ∧ (∃ p, L[b]? = some (124, p)) ∧ ∃ pb sb, CutOk 143 P B L root win (b + 1) hi pb sb ∧ ns = sa ++ sb ∧ np ps.length ss.length = pa ps.length ss.length ++ (pb (ps.length + (pa ps.length ss.length).length) (ss.length + sa.length) ++ [⟨2, (ps.length : Int) + (pa ps.length ss.length).length - 1, (ps.length : Int) + (pa ps.length ss.length).length + (pb (ps.length + (pa ps.length ss.length).length) (ss.length + sa.length)).length - 1, 0, 0, 0⟩]))) := by
    rcases hR with ⟨e0, e1, e2⟩ | ⟨e0, hp, pb, sb, hB, e2, e1⟩
    · exact Or.inl ⟨e0, e1 _ _, e2⟩
    · exact Or.inr ⟨e0, hp, pb, sb, hB, e2, e1 _ _⟩
  have HN : Hid (ps.length + (np ps.length ss.length).length ≤ 100000) := hN
  have HM : Hid (ss.length + ns.length ≤ 100000) := hM
  obtain ⟨kk, hk⟩ := hv
  have HK : Hid (Sc kk v) := hk
  have HS : Hid (Sub L lo v) := hS
  have HBL : Hid (lo + v.length = b) := hb
  have HBH : Hid (b ≤ hi) := hbh
  clear h hA hR hN hM hk hS hb hbh
  generalize hNP : np ps.length ss.length = NP at *
  have HPA := HA.out ps ss pv sv
  generalize hPA : pa ps.length ss.length = A at *
  have HPA : Hid (∀ (w : World) {z1 z2 : Int}, z1 = lo → z2 = b → TS w P B L pv sv root win ps ss → ps.length + A.length ≤ 100000 → ss.length + sa.length ≤ 100000 → Calls Tryz.prog 186 #[.pointer (some ⟨P.C, 0, none⟩), .int .i64 z1, .int .i64 z2] w (CutPost P B L root win ps ss A sa w)) := by
    intro w z1 z2 e1 e2 t h1 h2
    subst e1; subst e2
    exact HPA w t h1 h2
  clear HA hNP hPA
  obtain ⟨C, gs, cs, ga, ca, T⟩ := P
  simp only at c0
  go_enter Tryz.func143, Tryz.ntmps143
  go_wp2
  go_loopg [7] kk (fun m v7 wr => ∃ (x : List Tok) (i : Nat), v7 = .int .i64 i ∧ Sc m x ∧ Sub L i x ∧ i + x.length = b ∧ wr = w)
  case atStart => exact ⟨v, lo, rfl, HK.out, HS.out, HBL.out, rfl⟩
  case round =>
    obtain ⟨x, i, rfl, hsc, hsub, hix, rfl⟩ := hrel
    cases gk with
    | zero =>
      have hx : x = [] := hsc
      subst hx
      obtain rfl : i = b := by simpa using hix
      clear hsc hsub hix HK HS HBL
      rcases HRR.out with ⟨e0, e1, e2⟩ | ⟨e0, ⟨p, hp⟩, pb, sb, hB, e2, e1⟩
      · have E1 : Hid (NP = A) := e1
        have E2 : Hid (ns = sa) := e2
        have hn1 := HN.out
        have hm1 := HM.out
        rw [e1] at hn1
        rw [e2] at hm1
        have HN1 : Hid (ps.length + A.length ≤ 100000) := hn1
        have HM1 : Hid (ss.length + sa.length ≤ 100000) := hm1
        clear e1 e2 HRR hn1 hm1
        go_wp2_with fail
        refine (HPA.out _ rfl (by omega) H.out HN1.out HM1.out).mono ?_
        rintro e w1 ⟨rfl, pv1, sv1, ss1, hss, t1, k1⟩
        have KK : Hid (CutPost ⟨C, gs, cs, ga, ca, T⟩ B L root win ps ss A sa wr (.returned (.int .i64 ((ps.length : Int) + A.length - 1))) w1) := ⟨rfl, pv1, sv1, ss1, hss, t1, k1⟩
        clear hss t1 k1
        go_wp2
        go_ret
        rw [E1.out, E2.out]
        exact KK.out
      · have ce := H.out.cu.bs _ _ hp
        have hq3 := (List.getElem?_eq_some_iff.1 hp).1
        simp only at ce
        have hn1 := HN.out
        have hm1 := HM.out
        rw [e1] at hn1
        rw [e2] at hm1
        simp only [List.length_append, List.length_cons, List.length_nil] at hn1 hm1
        have E1 : Hid (NP = A ++ (pb (ps.length + A.length) (ss.length + sa.length) ++ [⟨2, (ps.length : Int) + A.length - 1, (ps.length : Int) + A.length + (pb (ps.length + A.length) (ss.length + sa.length)).length - 1, 0, 0, 0⟩])) := e1
        have E2 : Hid (ns = sa ++ sb) := e2
        have HB : Hid (CutOk 143 ⟨C, gs, cs, ga, ca, T⟩ B L root win (i + 1) hi pb sb) := hB
        have HN1 : Hid (ps.length + (A.length + ((pb (ps.length + A.length) (ss.length + sa.length)).length + (0 + 1))) ≤ 100000) := hn1
        have HM1 : Hid (ss.length + (sa.length + sb.length) ≤ 100000) := hm1
        clear e1 e2 hB HRR hp hn1 hm1
        go_wp2_with fail
        refine (HPA.out _ rfl rfl H.out (by have := HN1.out; omega) (by have := HM1.out; omega)).mono ?_
        rintro e w1 ⟨rfl, pv1, sv1, ss1, hss, t1, k1⟩
        have hsl : ss1.length = sa.length := by have := congrArg List.length hss; simpa using this
        have T1 : Hid (TS w1 ⟨C, gs, cs, ga, ca, T⟩ B L pv1 sv1 root win (ps ++ A) (ss ++ ss1)) := t1
        have K1 : Hid (KT T B wr w1) := k1
        have HSS : Hid (ss1.map (·.1) = sa) := hss
        have hb7 : ps.length + A.length = (ps ++ A).length := List.length_append.symm
        have hb8 : ss.length + sa.length = (ss ++ ss1).length := by rw [List.length_append, hsl]
        have e1 := E1.out
        have hn1 := HN1.out
        rw [hb7, hb8] at e1
        rw [hb7, hb8] at hn1
        have E1' : Hid (NP = A ++ (pb (ps ++ A).length (ss ++ ss1).length ++ [⟨2, (ps.length : Int) + A.length - 1, (ps.length : Int) + A.length + (pb (ps ++ A).length (ss ++ ss1).length).length - 1, 0, 0, 0⟩])) := e1
        have HN2 : Hid ((ps ++ A).length + (pb (ps ++ A).length (ss ++ ss1).length).length + 1 ≤ 100000) := by show _ ≤ _; omega
        have HM2 : Hid ((ss ++ ss1).length + sb.length ≤ 100000) := by have := HM1.out; show _ ≤ _; omega
        clear hss t1 k1 hsl hb7 hb8 e1 hn1 E1 HN1 HM1 c0 ce
        go_wp2_with fail
        refine (HB.out.at (by push_cast; rfl) rfl T1.out (by have := HN2.out; omega) HM2.out).mono ?_
        rintro e w3 ⟨rfl, pv3, sv3, ss3, hss3, t3, k3⟩
        generalize pb (ps ++ A).length (ss ++ ss1).length = D at *
        have T3 : Hid (TS w3 ⟨C, gs, cs, ga, ca, T⟩ B L pv3 sv3 root win ((ps ++ A) ++ D) ((ss ++ ss1) ++ ss3)) := t3
        have K3 : Hid (KT T B wr w3) := K1.out.trans k3
        have HS3 : Hid (ss3.map (·.1) = sb) := hss3
        clear t3 k3 hss3
        go_wp2_with fail
        refine (part_at ⟨C, gs, cs, ga, ca, T⟩ B L pv3 sv3 root win ((ps ++ A) ++ D) ((ss ++ ss1) ++ ss3) ⟨2, (ps.length : Int) + A.length - 1, ((ps ++ A).length : Int) + D.length - 1, 0, 0, 0⟩ w3 T3.out (by have := HN2.out; simp only [List.length_append] at this ⊢; omega) rfl (by show _ = (ps.length : Int) + A.length - 1; push_cast; omega) (by show _ = ((ps ++ A).length : Int) + D.length - 1; simp only [List.length_append]; push_cast; omega) rfl rfl rfl).mono ?_
        rintro e w4 ⟨rfl, pv4, t4, k4⟩
        have T4 : Hid (TS w4 ⟨C, gs, cs, ga, ca, T⟩ B L pv4 sv3 root win (((ps ++ A) ++ D) ++ [⟨2, (ps.length : Int) + A.length - 1, ((ps ++ A).length : Int) + D.length - 1, 0, 0, 0⟩]) ((ss ++ ss1) ++ ss3)) := t4
        have K4 : Hid (KT T B wr w4) := K3.out.trans k4
        clear t4 k4
        go_wp2
        go_ret
        refine ⟨ret_intC (by rw [E1'.out]; simp; omega), pv4, sv3, ss1 ++ ss3, by rw [E2.out, List.map_append, HSS.out, HS3.out], ?_, K4.out⟩
        have := T4.out
        have e7 : ((ps ++ A).length : Int) = (ps.length : Int) + A.length := by simp
        rw [e7] at this
        rw [E1'.out]
        simpa [List.append_assoc] using this
    | succ k =>
      rcases hsc with ⟨c, r, e, h1, h2, h3, h4⟩ | ⟨c, v', d, r, e, h1, h2, h3, h4⟩
      · subst e
        have hh := hsub.head
        have ce := H.out.cu.bs _ _ hh
        have hq3 := (List.getElem?_eq_some_iff.1 hh).1
        obtain ⟨x0, x1⟩ := H.out.cu.rg _ (List.mem_of_getElem? hh)
        obtain ⟨c, p⟩ := c
        simp only at ce x0 x1 h1 h2 h3
        have g1 : (c == 124) = false := by simp [h1]
        have g2 : (c == 40) = false := by simp [h2]
        have g3 : (c == 91) = false := by simp [h3]
        have hix' : i + 1 + r.length = b := by simp at hix; omega
        have hlt : i < hi := by have := HBH.out; omega
        have HI : Hid (i + 1 + r.length = b) := hix'
        have HS1 : Hid (Sub L (i + 1) r) := hsub.tail
        have HK1 : Hid (Sc k r) := h4
        clear hh h1 h2 h3 h4 hix hix' hsub
        go_wp2
        go_roundg k
        case measure => omega
        case rel => exact ⟨r, i + 1, by simp, HK1.out, HS1.out, HI.out, rfl⟩
      · subst e
        have hh := hsub.head
        have ce := H.out.cu.bs _ _ hh
        have hq3 := (List.getElem?_eq_some_iff.1 hh).1
        have hc1 : brk c.1 = 1 := by simp only [brk]; rw [if_pos (by omega)]
        have hd := hsub.drop
        have hsh : sh 0 (L.drop i) = v'.length + 2 := by
          rw [hd, List.cons_append, List.append_assoc]
          exact sh_bracket hc1 h2 h3
        have hS1 : Sub L (i + (v'.length + 2)) r := by
          have := (hsub.tail.right (u := v') (v := d :: r) rfl).tail
          have e : i + 1 + v'.length + 1 = i + (v'.length + 2) := by omega
          rw [e] at this; exact this
        obtain ⟨c, p⟩ := c
        simp only at ce h1
        have hix' : i + (v'.length + 2) + r.length = b := by simp at hix; omega
        have hlt : i < hi := by have := HBH.out; simp at hix; omega
        have HI : Hid (i + (v'.length + 2) + r.length = b) := hix'
        have HS1 : Hid (Sub L (i + (v'.length + 2)) r) := hS1
        have HK1 : Hid (Sc k r) := h4
        have HSH : Hid (i + sh 0 (L.drop i) = i + (v'.length + 2)) := by show _ = _; rw [hsh]
        generalize v'.length + 2 = z at *
        clear hh h2 h3 h4 hix hix' hsub hd hsh hc1 hS1
        rcases h1 with rfl | rfl
        all_goals
          go_wp2_with fail
          refine (shut_at ⟨C, gs, cs, ga, ca, T⟩ L i (i + z) _ rfl _ H.out.cu (by omega) HSH.out).mono ?_
          rintro e w2 ⟨rfl, rfl⟩
          go_wp2
          go_roundg k
          case measure => omega
          case rel => exact ⟨r, i + z, rfl, HK1.out, HS1.out, HI.out, rfl⟩
end Go.Proofs.YtcboiapggnmpfaaGreat

namespace Go.Proofs.YtcboiapggnmpfaaGreat
open Go.RowKit
set_option linter.unusedSimpArgs false
set_option linter.unusedVariables false

set_option maxRecDepth 100000 in
set_option maxHeartbeats 1000000 in
theorem paren_any (P : CuP) (B : Nat) (L : List Tok) (root win : Int) (lo hi p : Nat) (np : Nat → Nat → List Pt) (ns : List St) (hp : L[lo]? = some (40, p)) (hA : CutOk 143 P B L root win (lo + 1) hi np ns) (hh : hi ≤ L.length) :
    CutOk 227 P B L root win lo (hi + 1) np ns := by
  intro ps ss pv sv w h hN hM
  have c0 := h.cu.c0
  have hlen := h.cu.len
  have ce := h.cu.bs _ _ hp
  have hlo := (List.getElem?_eq_some_iff.1 hp).1
  have HC : Hid (∀ {z1 z2 : Int}, z1 = ((lo + 1 : Nat) : Int) → z2 = hi → Calls Tryz.prog 143 #[.pointer (some ⟨P.C, 0, none⟩), .int .i64 z1, .int .i64 z2] w (CutPost P B L root win ps ss (np ps.length ss.length) ns w)) := fun e1 e2 => hA.at e1 e2 h hN hM
  clear h hN hM hp
  obtain ⟨C, gs, cs, ga, ca, T⟩ := P
  simp only at c0 ce
  go_enter Tryz.func227, Tryz.ntmps227
  go_wp2_with fail
  refine (HC.out (by push_cast; rfl) (by push_cast; omega)).mono ?_
  rintro e w1 ⟨rfl, pv1, sv1, ss1, hss, t1, k1⟩
  have KK : Hid (CutPost ⟨C, gs, cs, ga, ca, T⟩ B L root win ps ss (np ps.length ss.length) ns w (.returned (.int .i64 ((ps.length : Int) + (np ps.length ss.length).length - 1))) w1) := ⟨rfl, pv1, sv1, ss1, hss, t1, k1⟩
  clear hss t1 k1
  go_wp2
  go_ret
  exact KK.out
/-- What may stand behind a step. -/
def Nxt (x : List Tok) : Prop := x = [] ∨ ∃ c r, x = c :: r ∧ isNameB c.1 = false ∧ ¬ c.1 = 91
theorem sub_get {L : List Tok} {lo : Nat} {u x : List Tok} {c : Tok} (h : Sub L lo (u ++ c :: x)) : L[lo + u.length]? = some c := (h.right rfl).head
theorem name_no {c : Int} (h : KH c) : isNameB c = false ∧ ¬ c = 91 := by
  unfold KH at h
  refine ⟨?_, by omega⟩
  rw [Bool.eq_false_iff]
  intro e
  rw [isName_iff] at e
  omega
theorem bdy_step {L : List Tok} {lo hi : Nat} {s : St} {v x : List Tok} (hy : ySt s v) (hx : Nxt x) (hS : Sub L lo (v ++ x)) (hhi : lo + (v ++ x).length = hi) : Bdy L lo hi v.length := by
  obtain ⟨c, a, b, e, hc, _, ha, hb⟩ := hy
  subst e
  rw [isKind_iff] at hc
  have h0 : L[lo]? = some (c, s.pos) := by have := sub_get (u := []) (by simpa using hS); simpa using this
  refine ⟨c, s.pos, h0, Or.inr ⟨by simp; omega, ?_⟩⟩
  simp only [List.cons_append, List.append_assoc, List.length_cons, List.length_append] at hS hhi
  have hS1 : Sub L (lo + 1) (a ++ (b ++ x)) := hS.tail
  rcases ha with ⟨_, ea⟩ | ⟨d, q, hd, ea, _⟩
  · subst ea
    refine ⟨0, ?_, ?_⟩
    · rcases hb with ⟨_, eb⟩ | ⟨q, v', eb, _⟩
      · subst eb
        rcases hx with ex | ⟨d, r, ex, h1, h2⟩
        · subst ex; simp at hhi; exact Or.inr (Or.inl ⟨rfl, by omega⟩)
        · subst ex
          obtain ⟨d, q⟩ := d
          exact Or.inr (Or.inr ⟨rfl, by simp at hhi; omega, d, q, hS1.head, h1⟩)
      · subst eb
        exact Or.inr (Or.inr ⟨rfl, by simp at hhi; omega, 91, q, hS1.head, by decide⟩)
    · rcases hb with ⟨_, eb⟩ | ⟨q, v', eb, ht⟩
      · subst eb
        rcases hx with ex | ⟨d, r, ex, h1, h2⟩
        · subst ex; simp at hhi; exact Or.inr (Or.inl ⟨by omega, by simp⟩)
        · subst ex
          obtain ⟨d, q⟩ := d
          exact Or.inr (Or.inr ⟨by simp at hhi; omega, by simp, d, q, hS1.head, by simpa using h2⟩)
      · subst eb
        obtain ⟨v2, p2, e2, hbal, _⟩ := yTsts_bal _ _ ht
        subst e2
        have hdr := hS1.drop
        refine Or.inl ⟨by simp at hhi; omega, ⟨q, hS1.head⟩, ?_⟩
        have : sh 0 (L.drop (lo + 1)) = v2.length + 2 := by
          rw [hdr]
          simp only [List.nil_append, List.cons_append, List.append_assoc]
          exact sh_bracket (by decide : brk 91 = 1) (by decide : brk 93 = -1) hbal
        simp only [Nat.add_zero]
        rw [this]; simp; omega
  · subst ea
    have hS2 : Sub L (lo + 1 + 1) (b ++ x) := hS1.tail
    refine ⟨1, Or.inl ⟨rfl, by simp at hhi; omega, d, q, hS1.head, hd⟩, ?_⟩
    rcases hb with ⟨_, eb⟩ | ⟨q, v', eb, ht⟩
    · subst eb
      rcases hx with ex | ⟨d, r, ex, h1, h2⟩
      · subst ex; simp at hhi; exact Or.inr (Or.inl ⟨by omega, by simp⟩)
      · subst ex
        obtain ⟨d, q⟩ := d
        exact Or.inr (Or.inr ⟨by simp at hhi; omega, by simp, d, q, hS2.head, by simpa using h2⟩)
    · subst eb
      obtain ⟨v2, p2, e2, hbal, _⟩ := yTsts_bal _ _ ht
      subst e2
      have hdr := hS2.drop
      refine Or.inl ⟨by simp at hhi; omega, ⟨q, hS2.head⟩, ?_⟩
      have : sh 0 (L.drop (lo + 1 + 1)) = v2.length + 2 := by
        rw [hdr]
        simp only [List.cons_append, List.append_assoc]
        exact sh_bracket (by decide : brk 91 = 1) (by decide : brk 93 = -1) hbal
      rw [this]; simp; omega
theorem bdy_paren {L : List Tok} {lo hi : Nat} {v x : List Tok} {p q : Nat} (hv : Bal v) (hS : Sub L lo ((40, p) :: (v ++ [(41, q)]) ++ x)) : Bdy L lo hi ((40, p) :: (v ++ [(41, q)])).length := by
  refine ⟨40, p, hS.left.head, Or.inl ⟨rfl, ?_⟩⟩
  rw [hS.drop]
  simp only [List.cons_append, List.append_assoc, List.nil_append]
  rw [sh_bracket (by decide : brk 40 = 1) (by decide : brk 41 = -1) hv]
  simp
theorem rp_of {L : List Tok} {hi b : Nat} {q : Rep} {r x : List Tok} (hy : yRepS q r) (hx : x = [] ∨ ∃ c y, x = c :: y ∧ KH c.1) (hS : Sub L b (r ++ x)) (hhi : b + (r ++ x).length = hi) : Rp L hi b q r.length := by
  rcases hy with ⟨e1, e⟩ | ⟨p, e, e1⟩ | ⟨p, e, e1⟩ | ⟨p, e, e1⟩ | ⟨a, c, p0, p1, p2, p3, e, ha, hc, _, _, e1⟩
  · subst e
    refine Or.inl ⟨e1, rfl, ?_⟩
    rcases hx with ex | ⟨c, y, ex, hk⟩
    · subst ex; simp at hhi; exact Or.inl hhi
    · subst ex
      obtain ⟨c, p⟩ := c
      unfold KH at hk
      simp only at hk
      exact Or.inr ⟨by simp at hhi; omega, c, p, hS.head, by simp; omega, by simp; omega, by simp; omega, by simp; omega⟩
  · subst e; exact Or.inr (Or.inl ⟨by simp at hhi; omega, rfl, ⟨p, hS.head⟩, e1⟩)
  · subst e; exact Or.inr (Or.inr (Or.inl ⟨by simp at hhi; omega, rfl, ⟨p, hS.head⟩, e1⟩))
  · subst e; exact Or.inr (Or.inr (Or.inr (Or.inl ⟨by simp at hhi; omega, rfl, ⟨p, hS.head⟩, e1⟩)))
  · subst e
    rw [isDigit_iff] at ha hc
    exact Or.inr (Or.inr (Or.inr (Or.inr ⟨by simp at hhi; omega, rfl, p0, a, p1, c, p2, hS.head, hS.tail.head, hS.tail.tail.head, by omega, by omega, by omega, by omega, e1⟩)))
theorem nxt_of {q : Rep} {r x : List Tok} (hy : yRepS q r) (hx : x = [] ∨ ∃ c y, x = c :: y ∧ KH c.1) : Nxt (r ++ x) := by
  rcases hy with ⟨e1, e⟩ | ⟨p, e, e1⟩ | ⟨p, e, e1⟩ | ⟨p, e, e1⟩ | ⟨a, c, p0, p1, p2, p3, e, ha, hc, _, _, e1⟩
  · subst e
    rcases hx with ex | ⟨c, y, ex, hk⟩
    · subst ex; exact Or.inl rfl
    · subst ex; exact Or.inr ⟨c, y, rfl, (name_no hk).1, (name_no hk).2⟩
  · subst e; exact Or.inr ⟨_, _, rfl, (by decide : isNameB 42 = false), by simp⟩
  · subst e; exact Or.inr ⟨_, _, rfl, (by decide : isNameB 43 = false), by simp⟩
  · subst e; exact Or.inr ⟨_, _, rfl, (by decide : isNameB 63 = false), by simp⟩
  · subst e; exact Or.inr ⟨_, _, rfl, (by decide : isNameB 123 = false), by simp⟩
section
variable (P : CuP) (B : Nat) (L : List Tok) (root win : Int)
def AtomOk (n : Nat) : Prop := ∀ (a : Atom n) (u : List Tok) (lo : Nat), yAtom n a u → Sub L lo u → CutOk 227 P B L root win lo (lo + u.length) (atomP n a) (atomS n a)
def AtomBd (n : Nat) : Prop := ∀ (a : Atom n) (v x : List Tok) (lo hi : Nat), yAtom n a v → Nxt x → Sub L lo (v ++ x) → lo + (v ++ x).length = hi → Bdy L lo hi v.length
theorem atomBd (n : Nat) : AtomBd L n := by
  intro a v x lo hi hy hx hS hhi
  cases n with
  | zero => exact bdy_step hy hx hS hhi
  | succ n =>
    cases a with
    | inl s => exact bdy_step hy hx hS hhi
    | inr t =>
      obtain ⟨p, v', q, e, h⟩ := hy
      subst e
      exact bdy_paren (yAlt_bal (yAtom_scan n) h) hS
theorem sub_le {L : List Tok} {lo : Nat} {u : List Tok} (h : Sub L lo u) (hu : 0 < u.length) : lo + u.length ≤ L.length := h.le hu
theorem row_ok {n : Nat} (HA : AtomOk P B L root win n) : ∀ (xs : List (Atom n × Rep)) (x : Atom n × Rep) (u : List Tok) (lo : Nat), yReps (yAtom n) (x :: xs) u → Sub L lo u →
    CutOk 186 P B L root win lo (lo + u.length) (fun k m => seqP (atomP n) (atomS n) x xs k m) (seqS (atomS n) x xs) := by
  intro xs
  induction xs with
  | nil =>
    intro x u lo hy hS
    obtain ⟨v, r, e, ⟨v1, r1, e1, h1, h3⟩, h2⟩ := hy
    simp only [yReps] at h2
    subst h2; subst e1
    simp at e; subst e
    obtain ⟨_, c0, y0, hv1, _⟩ := atomB n _ _ h1
    have hpos : 0 < (v1 ++ r1).length := by rw [hv1]; simp
    refine row_any P B L root win lo _ v1.length (lo + v1.length) r1.length rfl x.2 (atomP n x.1) _ (atomS n x.1) _ (HA x.1 v1 lo h1 hS.left) (atomBd L n x.1 v1 r1 lo _ h1 (by have := nxt_of (x := []) h3 (Or.inl rfl); simpa using this) hS rfl) (rp_of (x := []) h3 (Or.inl rfl) (by simpa using hS.right rfl) (by simp; omega)) (sub_le hS hpos) (Or.inl ⟨by simp; omega, ?_, rfl⟩)
    intro k m
    exact repP_rep1 (atomP n) x k m
  | cons y ys ih =>
    intro x u lo hy hS
    obtain ⟨v, r, e, ⟨v1, r1, e1, h1, h3⟩, h2⟩ := hy
    subst e1; subst e
    obtain ⟨_, c0, y0, hv1, _⟩ := atomB n _ _ h1
    have hpos : 0 < (v1 ++ r1 ++ r).length := by rw [hv1]; simp
    have hhd : r = [] ∨ ∃ c y, r = c :: y ∧ KH c.1 := by
      rcases yReps_head (atomB n) _ _ h2 with ⟨e, _⟩ | h
      · cases e
      · exact Or.inr h
    have hrp : 0 < r.length := by
      rcases yReps_head (atomB n) _ _ h2 with ⟨e, _⟩ | ⟨c, y, e, _⟩
      · cases e
      · rw [e]; simp
    have hS' : Sub L lo (v1 ++ (r1 ++ r)) := by rw [← List.append_assoc]; exact hS
    have hb := ih y r (lo + v1.length + r1.length) h2 (hS.right (by simp; omega))
    have e : lo + v1.length + r1.length + r.length = lo + (v1 ++ r1 ++ r).length := by simp; omega
    rw [e] at hb
    refine row_any P B L root win lo _ v1.length (lo + v1.length) r1.length rfl x.2 (atomP n x.1) _ (atomS n x.1) _ (HA x.1 v1 lo h1 hS'.left) (atomBd L n x.1 v1 (r1 ++ r) lo _ h1 (nxt_of h3 hhd) hS' (by simp)) (rp_of h3 hhd (hS'.right rfl) (by simp; omega)) (sub_le hS hpos) (Or.inr ⟨by simp; omega, _, _, hb, rfl, ?_⟩)
    intro k m
    simp only [seqP, repP_rep1]
theorem whole_ok {n : Nat} (HA : AtomOk P B L root win n) : ∀ (ts : List (SeqOf (Atom n))) (s : SeqOf (Atom n)) (v r : List Tok) (lo : Nat), ySeq (yAtom n) s v → yAlts (yAtom n) ts r → Sub L lo (v ++ r) →
    CutOk 143 P B L root win lo (lo + (v ++ r).length) (fun k m => altP (atomP n) (atomS n) s ts k m) (altS (atomS n) s ts) := by
  intro ts
  induction ts with
  | nil =>
    intro s v r lo h1 h2 hS
    simp only [yAlts] at h2
    subst h2
    simp only [List.append_nil] at hS ⊢
    have hpos : 0 < v.length := by
      rcases yReps_head (atomB n) _ _ h1 with ⟨e, _⟩ | ⟨c, y, e, _⟩
      · cases e
      · rw [e]; simp
    exact wholeC_any P B L root win lo _ (lo + v.length) v rfl (yReps_scan (yAtom_scan n) _ _ h1).1 hS (sub_le hS hpos) _ _ _ _ (row_ok P B L root win HA s.2 s.1 v lo h1 hS) (Or.inl ⟨rfl, fun _ _ => rfl, rfl⟩)
  | cons t ts ih =>
    intro s v r lo h1 h2 hS
    obtain ⟨p, v', r', e, h3, h4⟩ := h2
    subst e
    have hpos : 0 < (v ++ (124, p) :: (v' ++ r')).length := by simp; omega
    have hb := ih t v' r' (lo + v.length + 1) h3 h4 (hS.right rfl).tail
    have e : lo + v.length + 1 + (v' ++ r').length = lo + (v ++ (124, p) :: (v' ++ r')).length := by simp; omega
    rw [e] at hb
    refine wholeC_any P B L root win lo _ (lo + v.length) v rfl (yReps_scan (yAtom_scan n) _ _ h1).1 hS.left (sub_le hS hpos) _ _ _ _ (row_ok P B L root win HA s.2 s.1 v lo h1 hS.left) (Or.inr ⟨by simp, ⟨p, sub_get hS⟩, _, _, hb, rfl, ?_⟩)
    intro k m
    simp only [altP]
/-- What is asked of a step's cut. -/
def StepOk : Prop := ∀ (s : St) (u : List Tok) (lo : Nat), ySt s u → Sub L lo u → CutOk 227 P B L root win lo (lo + u.length) (fun _ m => [⟨0, 0, 0, 0, 0, m⟩]) [s]
theorem atom_ok (hS0 : StepOk P B L root win) : ∀ n : Nat, AtomOk P B L root win n := by
  intro n
  induction n with
  | zero => intro a u lo hy hS; exact hS0 a u lo hy hS
  | succ n ih =>
    intro a u lo hy hS
    cases a with
    | inl s => exact hS0 s u lo hy hS
    | inr t =>
      obtain ⟨p, v, q, e, v1, r1, e1, h1, h2⟩ := hy
      subst e; subst e1
      have hw := whole_ok P B L root win ih t.2 t.1 v1 r1 (lo + 1) h1 h2 hS.tail.left
      have hle : lo + 1 + (v1 ++ r1).length + 1 ≤ L.length := by have := sub_le hS (by simp); simp at this ⊢; omega
      have e : lo + ((40, p) :: (v1 ++ r1 ++ [(41, q)])).length = lo + 1 + (v1 ++ r1).length + 1 := by simp; omega
      rw [e]
      exact paren_any P B L root win lo (lo + 1 + (v1 ++ r1).length) p _ _ hS.head hw (by omega)
end
end Go.Proofs.YtcboiapggnmpfaaGreat
