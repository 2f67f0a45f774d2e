/- Walks: spotterref: the cutter's alternatives; rows and alternatives of a depth. -/
import Derived.Test.YtcboiapggnmpfaaGreatCe
namespace Go.Proofs.YtcboiapggnmpfaaGreat
open Go.RowKit
set_option linter.unusedSimpArgs false
set_option linter.unusedVariables false

set_option maxRecDepth 100000 in
set_option maxHeartbeats 4000000 in
/-- An alternative: v is its first row, ahead of b; behind it the end, or a | and the others. -/
theorem wholeC_any (P : CuP) (B : Nat) (L : List Tok) (root win : Int) (lo hi b : Nat) (v : List Tok) (hb : lo + v.length = b) (hv : ScE v) (hS : Sub L lo v) (hhi : hi ≤ L.length) (pa np : Nat → Nat → List Pt) (sa ns : List St)
    (hA : CutOk 186 P B L root win lo b pa sa)
    (hR : (b = hi ∧ (∀ k m, np k m = pa k m) ∧ ns = sa) ∨
      (b < hi ∧ (∃ p, L[b]? = some (124, p)) ∧ ∃ pb sb, CutOk 143 P B L root win (b + 1) hi pb sb ∧ ns = sa ++ sb ∧ ∀ k m, np k m = pa k m ++ (pb (k + (pa k m).length) (m + sa.length) ++ [⟨2, (k : Int) + (pa k m).length - 1, (k : Int) + (pa k m).length + (pb (k + (pa k m).length) (m + sa.length)).length - 1, 0, 0, 0⟩]))) :
    CutOk 143 P B L root win lo hi np ns := by
  intro ps ss pv sv w h hN hM
  have H : Hid (TS w P B L pv sv root win ps ss) := h
  have c0 := h.cu.c0
  have hlen := h.cu.len
  have HA : Hid (CutOk 186 P B L root win lo b pa sa) := hA
  have hbh : b ≤ hi := by rcases hR with ⟨e, _⟩ | ⟨e, _⟩ <;> omega
  have HRR : Hid ((b = hi ∧ np ps.length ss.length = pa ps.length ss.length ∧ ns = sa) ∨
      (b < hi ∧ (∃ p, L[b]? = some (124, p)) ∧ ∃ pb sb, CutOk 143 P B L root win (b + 1) hi pb sb ∧ ns = sa ++ sb ∧ np ps.length ss.length = pa ps.length ss.length ++ (pb (ps.length + (pa ps.length ss.length).length) (ss.length + sa.length) ++ [⟨2, (ps.length : Int) + (pa ps.length ss.length).length - 1, (ps.length : Int) + (pa ps.length ss.length).length + (pb (ps.length + (pa ps.length ss.length).length) (ss.length + sa.length)).length - 1, 0, 0, 0⟩]))) := by
    rcases hR with ⟨e0, e1, e2⟩ | ⟨e0, hp, pb, sb, hB, e2, e1⟩
    · exact Or.inl ⟨e0, e1 _ _, e2⟩
    · exact Or.inr ⟨e0, hp, pb, sb, hB, e2, e1 _ _⟩
  have HN : Hid (ps.length + (np ps.length ss.length).length ≤ 100000) := hN
  have HM : Hid (ss.length + ns.length ≤ 100000) := hM
  obtain ⟨kk, hk⟩ := hv
  have HK : Hid (Sc kk v) := hk
  have HS : Hid (Sub L lo v) := hS
  have HBL : Hid (lo + v.length = b) := hb
  have HBH : Hid (b ≤ hi) := hbh
  clear h hA hR hN hM hk hS hb hbh
  generalize hNP : np ps.length ss.length = NP at *
  have HPA := HA.out ps ss pv sv
  generalize hPA : pa ps.length ss.length = A at *
  have HPA : Hid (∀ (w : World) {z1 z2 : Int}, z1 = lo → z2 = b → TS w P B L pv sv root win ps ss → ps.length + A.length ≤ 100000 → ss.length + sa.length ≤ 100000 → Calls Tryz.prog 186 #[.pointer (some ⟨P.C, 0, none⟩), .int .i64 z1, .int .i64 z2] w (CutPost P B L root win ps ss A sa w)) := by
    intro w z1 z2 e1 e2 t h1 h2
    subst e1; subst e2
    exact HPA w t h1 h2
  clear HA hNP hPA
  obtain ⟨C, gs, cs, ga, ca, T⟩ := P
  simp only at c0
  go_enter Tryz.func143, Tryz.ntmps143
  go_wp2
  go_loopg [7] kk (fun m v7 wr => ∃ (x : List Tok) (i : Nat), v7 = .int .i64 i ∧ Sc m x ∧ Sub L i x ∧ i + x.length = b ∧ wr = w)
  case atStart => exact ⟨v, lo, rfl, HK.out, HS.out, HBL.out, rfl⟩
  case round =>
    obtain ⟨x, i, rfl, hsc, hsub, hix, rfl⟩ := hrel
    cases gk with
    | zero =>
      have hx : x = [] := hsc
      subst hx
      obtain rfl : i = b := by simpa using hix
      clear hsc hsub hix HK HS HBL
      rcases HRR.out with ⟨e0, e1, e2⟩ | ⟨e0, ⟨p, hp⟩, pb, sb, hB, e2, e1⟩
      · have E1 : Hid (NP = A) := e1
        have E2 : Hid (ns = sa) := e2
        have hn1 := HN.out
        have hm1 := HM.out
        rw [e1] at hn1
        rw [e2] at hm1
        have HN1 : Hid (ps.length + A.length ≤ 100000) := hn1
        have HM1 : Hid (ss.length + sa.length ≤ 100000) := hm1
        clear e1 e2 HRR hn1 hm1
        go_wp2_with fail
        refine (HPA.out _ rfl (by omega) H.out HN1.out HM1.out).mono ?_
        rintro e w1 ⟨rfl, pv1, sv1, ss1, hss, t1, k1⟩
        have KK : Hid (CutPost ⟨C, gs, cs, ga, ca, T⟩ B L root win ps ss A sa wr (.returned (.int .i64 ((ps.length : Int) + A.length - 1))) w1) := ⟨rfl, pv1, sv1, ss1, hss, t1, k1⟩
        clear hss t1 k1
        go_wp2
        go_ret
        rw [E1.out, E2.out]
        exact KK.out
      · have ce := H.out.cu.bs _ _ hp
        have hq3 := (List.getElem?_eq_some_iff.1 hp).1
        simp only at ce
        have hn1 := HN.out
        have hm1 := HM.out
        rw [e1] at hn1
        rw [e2] at hm1
        simp only [List.length_append, List.length_cons, List.length_nil] at hn1 hm1
        have E1 : Hid (NP = A ++ (pb (ps.length + A.length) (ss.length + sa.length) ++ [⟨2, (ps.length : Int) + A.length - 1, (ps.length : Int) + A.length + (pb (ps.length + A.length) (ss.length + sa.length)).length - 1, 0, 0, 0⟩])) := e1
        have E2 : Hid (ns = sa ++ sb) := e2
        have HB : Hid (CutOk 143 ⟨C, gs, cs, ga, ca, T⟩ B L root win (i + 1) hi pb sb) := hB
        have HN1 : Hid (ps.length + (A.length + ((pb (ps.length + A.length) (ss.length + sa.length)).length + (0 + 1))) ≤ 100000) := hn1
        have HM1 : Hid (ss.length + (sa.length + sb.length) ≤ 100000) := hm1
        clear e1 e2 hB HRR hp hn1 hm1
        go_wp2_with fail
        refine (HPA.out _ rfl rfl H.out (by have := HN1.out; omega) (by have := HM1.out; omega)).mono ?_
        rintro e w1 ⟨rfl, pv1, sv1, ss1, hss, t1, k1⟩
        have hsl : ss1.length = sa.length := by have := congrArg List.length hss; simpa using this
        have T1 : Hid (TS w1 ⟨C, gs, cs, ga, ca, T⟩ B L pv1 sv1 root win (ps ++ A) (ss ++ ss1)) := t1
        have K1 : Hid (KT T B wr w1) := k1
        have HSS : Hid (ss1.map (·.1) = sa) := hss
        have hb7 : ps.length + A.length = (ps ++ A).length := List.length_append.symm
        have hb8 : ss.length + sa.length = (ss ++ ss1).length := by rw [List.length_append, hsl]
        have e1 := E1.out
        have hn1 := HN1.out
        rw [hb7, hb8] at e1
        rw [hb7, hb8] at hn1
        have E1' : Hid (NP = A ++ (pb (ps ++ A).length (ss ++ ss1).length ++ [⟨2, (ps.length : Int) + A.length - 1, (ps.length : Int) + A.length + (pb (ps ++ A).length (ss ++ ss1).length).length - 1, 0, 0, 0⟩])) := e1
        have HN2 : Hid ((ps ++ A).length + (pb (ps ++ A).length (ss ++ ss1).length).length + 1 ≤ 100000) := by show _ ≤ _; omega
        have HM2 : Hid ((ss ++ ss1).length + sb.length ≤ 100000) := by have := HM1.out; show _ ≤ _; omega
        clear hss t1 k1 hsl hb7 hb8 e1 hn1 E1 HN1 HM1 c0 ce
        go_wp2_with fail
        refine (HB.out.at (by push_cast; rfl) rfl T1.out (by have := HN2.out; omega) HM2.out).mono ?_
        rintro e w3 ⟨rfl, pv3, sv3, ss3, hss3, t3, k3⟩
        generalize pb (ps ++ A).length (ss ++ ss1).length = D at *
        have T3 : Hid (TS w3 ⟨C, gs, cs, ga, ca, T⟩ B L pv3 sv3 root win ((ps ++ A) ++ D) ((ss ++ ss1) ++ ss3)) := t3
        have K3 : Hid (KT T B wr w3) := K1.out.trans k3
        have HS3 : Hid (ss3.map (·.1) = sb) := hss3
        clear t3 k3 hss3
        go_wp2_with fail
        refine (part_at ⟨C, gs, cs, ga, ca, T⟩ B L pv3 sv3 root win ((ps ++ A) ++ D) ((ss ++ ss1) ++ ss3) ⟨2, (ps.length : Int) + A.length - 1, ((ps ++ A).length : Int) + D.length - 1, 0, 0, 0⟩ w3 T3.out (by have := HN2.out; simp only [List.length_append] at this ⊢; omega) rfl (by show _ = (ps.length : Int) + A.length - 1; push_cast; omega) (by show _ = ((ps ++ A).length : Int) + D.length - 1; simp only [List.length_append]; push_cast; omega) rfl rfl rfl).mono ?_
        rintro e w4 ⟨rfl, pv4, t4, k4⟩
        have T4 : Hid (TS w4 ⟨C, gs, cs, ga, ca, T⟩ B L pv4 sv3 root win (((ps ++ A) ++ D) ++ [⟨2, (ps.length : Int) + A.length - 1, ((ps ++ A).length : Int) + D.length - 1, 0, 0, 0⟩]) ((ss ++ ss1) ++ ss3)) := t4
        have K4 : Hid (KT T B wr w4) := K3.out.trans k4
        clear t4 k4
        go_wp2
        go_ret
        refine ⟨ret_intC (by rw [E1'.out]; simp; omega), pv4, sv3, ss1 ++ ss3, by rw [E2.out, List.map_append, HSS.out, HS3.out], ?_, K4.out⟩
        have := T4.out
        have e7 : ((ps ++ A).length : Int) = (ps.length : Int) + A.length := by simp
        rw [e7] at this
        rw [E1'.out]
        simpa [List.append_assoc] using this
    | succ k =>
      rcases hsc with ⟨c, r, e, h1, h2, h3, h4⟩ | ⟨c, v', d, r, e, h1, h2, h3, h4⟩
      · subst e
        have hh := hsub.head
        have ce := H.out.cu.bs _ _ hh
        have hq3 := (List.getElem?_eq_some_iff.1 hh).1
        obtain ⟨x0, x1⟩ := H.out.cu.rg _ (List.mem_of_getElem? hh)
        obtain ⟨c, p⟩ := c
        simp only at ce x0 x1 h1 h2 h3
        have g1 : (c == 124) = false := by simp [h1]
        have g2 : (c == 40) = false := by simp [h2]
        have g3 : (c == 91) = false := by simp [h3]
        have hix' : i + 1 + r.length = b := by simp at hix; omega
        have hlt : i < hi := by have := HBH.out; omega
        have HI : Hid (i + 1 + r.length = b) := hix'
        have HS1 : Hid (Sub L (i + 1) r) := hsub.tail
        have HK1 : Hid (Sc k r) := h4
        clear hh h1 h2 h3 h4 hix hix' hsub
        go_wp2
        go_roundg k
        case measure => omega
        case rel => exact ⟨r, i + 1, by simp, HK1.out, HS1.out, HI.out, rfl⟩
      · subst e
        have hh := hsub.head
        have ce := H.out.cu.bs _ _ hh
        have hq3 := (List.getElem?_eq_some_iff.1 hh).1
        have hc1 : brk c.1 = 1 := by simp only [brk]; rw [if_pos (by omega)]
        have hd := hsub.drop
        have hsh : sh 0 (L.drop i) = v'.length + 2 := by
          rw [hd, List.cons_append, List.append_assoc]
          exact sh_bracket hc1 h2 h3
        have hS1 : Sub L (i + (v'.length + 2)) r := by
          have := (hsub.tail.right (u := v') (v := d :: r) rfl).tail
          have e : i + 1 + v'.length + 1 = i + (v'.length + 2) := by omega
          rw [e] at this; exact this
        obtain ⟨c, p⟩ := c
        simp only at ce h1
        have hix' : i + (v'.length + 2) + r.length = b := by simp at hix; omega
        have hlt : i < hi := by have := HBH.out; simp at hix; omega
        have HI : Hid (i + (v'.length + 2) + r.length = b) := hix'
        have HS1 : Hid (Sub L (i + (v'.length + 2)) r) := hS1
        have HK1 : Hid (Sc k r) := h4
        have HSH : Hid (i + sh 0 (L.drop i) = i + (v'.length + 2)) := by show _ = _; rw [hsh]
        generalize v'.length + 2 = z at *
        clear hh h2 h3 h4 hix hix' hsub hd hsh hc1 hS1
        rcases h1 with rfl | rfl
        all_goals
          go_wp2_with fail
          refine (shut_at ⟨C, gs, cs, ga, ca, T⟩ L i (i + z) _ rfl _ H.out.cu (by omega) HSH.out).mono ?_
          rintro e w2 ⟨rfl, rfl⟩
          go_wp2
          go_roundg k
          case measure => omega
          case rel => exact ⟨r, i + z, rfl, HK1.out, HS1.out, HI.out, rfl⟩
end Go.Proofs.YtcboiapggnmpfaaGreat
