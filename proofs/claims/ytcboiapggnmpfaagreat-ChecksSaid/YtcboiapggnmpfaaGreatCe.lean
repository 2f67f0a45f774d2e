/- Walks: spotterref: the cutter's rows. -/
import Derived.Test.YtcboiapggnmpfaaGreatCc
import Derived.Test.YtcboiapggnmpfaaGreatQg
import Derived.Deep.DeepCutAuto
import Derived.Deep.LoopGhost
namespace Go.Proofs.YtcboiapggnmpfaaGreat
open Go.RowKit
set_option linter.unusedSimpArgs false
set_option linter.unusedVariables false

/-- What a cut leaves: new parts behind those that were there, new steps; the answer is the last part's number. -/
def CutPost (P : CuP) (B : Nat) (L : List Tok) (root win : Int) (ps : List Pt) (ss : List (St × Value)) (np : List Pt) (ns : List St) (w : World) (e : Ending) (w' : World) : Prop :=
  e = .returned (.int .i64 ((ps.length : Int) + np.length - 1)) ∧ ∃ pv sv ss', ss'.map (·.1) = ns ∧ TS w' P B L pv sv root win (ps ++ np) (ss ++ ss') ∧ KT P.T B w w'
def CutOk (fid : Nat) (P : CuP) (B : Nat) (L : List Tok) (root win : Int) (lo hi : Nat) (np : Nat → Nat → List Pt) (ns : List St) : Prop :=
  ∀ (ps : List Pt) (ss : List (St × Value)) (pv sv : Value) (w : World), TS w P B L pv sv root win ps ss → ps.length + (np ps.length ss.length).length ≤ 100000 → ss.length + ns.length ≤ 100000 →
    Calls Tryz.prog fid #[.pointer (some ⟨P.C, 0, none⟩), .int .i64 lo, .int .i64 hi] w (CutPost P B L root win ps ss (np ps.length ss.length) ns w)
def rep1 (l : List Pt) (k : Nat) (q : Rep) : List Pt :=
  match q with
  | none => l
  | some (lo, hi) => l ++ [⟨3, (k : Int) + l.length - 1, 0, lo, hi, 0⟩]
theorem repP_rep1 {α : Type} (pp : α → Nat → Nat → List Pt) (x : α × Rep) (k m : Nat) : repP pp x k m = rep1 (pp x.1 k m) k x.2 := by
  obtain ⟨a, q⟩ := x
  cases q with
  | none => rfl
  | some y => rfl
/-- What stands at lo, ahead of hi: a bracket with what is in it, or a step: n bytes. -/
def Bdy (L : List Tok) (lo hi n : Nat) : Prop :=
  ∃ c p, L[lo]? = some (c, p) ∧
   ((c = 40 ∧ sh 0 (L.drop lo) = n) ∨
    ((c == 40) = false ∧ ∃ k : Nat,
      ((k = 1 ∧ lo + 1 < hi ∧ ∃ d q, L[lo + 1]? = some (d, q) ∧ isNameB d = true) ∨ (k = 0 ∧ lo + 1 = hi) ∨ (k = 0 ∧ lo + 1 < hi ∧ ∃ d q, L[lo + 1]? = some (d, q) ∧ isNameB d = false)) ∧
      ((lo + 1 + k < hi ∧ (∃ q, L[lo + 1 + k]? = some (91, q)) ∧ 1 + k + sh 0 (L.drop (lo + 1 + k)) = n) ∨ (lo + 1 + k = hi ∧ n = 1 + k) ∨ (lo + 1 + k < hi ∧ n = 1 + k ∧ ∃ d q, L[lo + 1 + k]? = some (d, q) ∧ (d == 91) = false))))
/-- What stands at b: a repetition's m bytes, or none. -/
def Rp (L : List Tok) (hi b : Nat) (q : Rep) (m : Nat) : Prop :=
  (q = none ∧ m = 0 ∧ (b = hi ∨ (b < hi ∧ ∃ c p, L[b]? = some (c, p) ∧ (c == 42) = false ∧ (c == 43) = false ∧ (c == 63) = false ∧ (c == 123) = false))) ∨
  (b < hi ∧ m = 1 ∧ (∃ p, L[b]? = some (42, p)) ∧ q = some (0, -1)) ∨
  (b < hi ∧ m = 1 ∧ (∃ p, L[b]? = some (43, p)) ∧ q = some (1, -1)) ∨
  (b < hi ∧ m = 1 ∧ (∃ p, L[b]? = some (63, p)) ∧ q = some (0, 1)) ∨
  (b < hi ∧ m = 4 ∧ ∃ p0 a p1 c p2, L[b]? = some (123, p0) ∧ L[b + 1]? = some (a, p1) ∧ L[b + 2]? = some (c, p2) ∧ 48 ≤ a ∧ a ≤ 57 ∧ 48 ≤ c ∧ c ≤ 57 ∧ q = some (a - 48, c - 48))
theorem TS.kt {w w' : World} {P : CuP} {B : Nat} {L : List Tok} {pv sv : Value} {root win : Int} {ps : List Pt} {ss : List (St × Value)} (h : TS w P B L pv sv root win ps ss) (k : KT P.T B w w') : Cu w' P L :=
  h.cu.kp k (fun e => e.elim (fun e => h.neC e.symm) (fun e => by have := h.hC; omega)) (fun e => e.elim (fun e => h.nes e.symm) (fun e => by have := h.hs; omega)) (fun e => e.elim (fun e => h.nea e.symm) (fun e => by have := h.ha; omega))
theorem shut_at (P : CuP) (L : List Tok) (i n : Nat) (z : Int) (hz : z = i) (w : World) (h : Cu w P L) (hi : i ≤ L.length) (hn : i + sh 0 (L.drop i) = n) :
    Calls Tryz.prog 188 #[.pointer (some ⟨P.C, 0, none⟩), .int .i64 z] w fun e w' => e = .returned (.int .i64 ((n : Nat) : Int)) ∧ w' = w := by
  subst hz; subst hn
  exact shut_any P L i w h hi
theorem CutOk.at {fid : Nat} {P : CuP} {B : Nat} {L : List Tok} {root win : Int} {lo hi : Nat} {np : Nat → Nat → List Pt} {ns : List St} (h : CutOk fid P B L root win lo hi np ns) {z1 z2 : Int} (h1 : z1 = lo) (h2 : z2 = hi)
    {ps : List Pt} {ss : List (St × Value)} {pv sv : Value} {w : World} (t : TS w P B L pv sv root win ps ss) (hN : ps.length + (np ps.length ss.length).length ≤ 100000) (hM : ss.length + ns.length ≤ 100000) :
    Calls Tryz.prog fid #[.pointer (some ⟨P.C, 0, none⟩), .int .i64 z1, .int .i64 z2] w (CutPost P B L root win ps ss (np ps.length ss.length) ns w) := by
  subst h1; subst h2
  exact h ps ss pv sv w t hN hM
theorem part_at (P : CuP) (B : Nat) (L : List Tok) (pv sv : Value) (root win : Int) (ps : List Pt) (ss : List (St × Value)) (x : Pt) (w : World) (h : TS w P B L pv sv root win ps ss) (hN : ps.length ≤ 100000) {a0 a1 a2 a3 a4 a5 : Int} (e0 : a0 = x.op) (e1 : a1 = x.left) (e2 : a2 = x.right) (e3 : a3 = x.low) (e4 : a4 = x.high) (e5 : a5 = x.step) :
    Calls Tryz.prog 187 #[.pointer (some ⟨P.C, 0, none⟩), .agg #[.int .i64 a0, .int .i64 a1, .int .i64 a2, .int .i64 a3, .int .i64 a4, .int .i64 a5]] w fun e w' =>
      e = .returned (.int .i64 ps.length) ∧ ∃ pv', TS w' P B L pv' sv root win (ps ++ [x]) ss ∧ KT P.T B w w' := by
  subst e0; subst e1; subst e2; subst e3; subst e4; subst e5
  exact part_any P B L pv sv root win ps ss x w h hN
set_option maxRecDepth 100000 in
set_option maxHeartbeats 4000000 in
theorem row_any (P : CuP) (B : Nat) (L : List Tok) (root win : Int) (lo hi n b m : Nat) (hbn : lo + n = b) (q : Rep) (pa np : Nat → Nat → List Pt) (sa ns : List St)
    (hA : CutOk 227 P B L root win lo (b) pa sa) (hb : Bdy L lo hi n) (hr : Rp L hi (b) q m) (hhi : hi ≤ L.length)
    (hR : (b + m = hi ∧ (∀ k m, np k m = rep1 (pa k m) k q) ∧ ns = sa) ∨
      (b + m < hi ∧ ∃ pb sb, CutOk 186 P B L root win (b + m) hi pb sb ∧ ns = sa ++ sb ∧ ∀ k m, np k m = rep1 (pa k m) k q ++ (pb (k + (rep1 (pa k m) k q).length) (m + sa.length) ++ [⟨1, (k : Int) + (rep1 (pa k m) k q).length - 1, (k : Int) + (rep1 (pa k m) k q).length + (pb (k + (rep1 (pa k m) k q).length) (m + sa.length)).length - 1, 0, 0, 0⟩]))) :
    CutOk 186 P B L root win lo hi np ns := by
  intro ps ss pv sv w h hN hM
  have H : Hid (TS w P B L pv sv root win ps ss) := h
  have c0 := h.cu.c0
  have hlen := h.cu.len
  have HA : Hid (CutOk 227 P B L root win lo (b) pa sa) := hA
  have HRR : Hid ((b + m = hi ∧ (∀ k m, np k m = rep1 (pa k m) k q) ∧ ns = sa) ∨
      (b + m < hi ∧ ∃ pb sb, CutOk 186 P B L root win (b + m) hi pb sb ∧ ns = sa ++ sb ∧ ∀ k m, np k m = rep1 (pa k m) k q ++ (pb (k + (rep1 (pa k m) k q).length) (m + sa.length) ++ [⟨1, (k : Int) + (rep1 (pa k m) k q).length - 1, (k : Int) + (rep1 (pa k m) k q).length + (pb (k + (rep1 (pa k m) k q).length) (m + sa.length)).length - 1, 0, 0, 0⟩]))) := hR
  have hNN : ps.length + (rep1 (pa ps.length ss.length) ps.length q).length ≤ 100000 ∧ ss.length + sa.length ≤ 100000 := by
    rcases hR with ⟨_, e1, e2⟩ | ⟨_, pb, sb, _, e2, e1⟩
    · rw [e1] at hN; rw [e2] at hM; exact ⟨hN, hM⟩
    · rw [e1] at hN; rw [e2] at hM; simp at hN hM; omega
  have HN : Hid (ps.length + (np ps.length ss.length).length ≤ 100000) := hN
  have HM : Hid (ss.length + ns.length ≤ 100000) := hM
  have HNN : Hid (ps.length + (rep1 (pa ps.length ss.length) ps.length q).length ≤ 100000 ∧ ss.length + sa.length ≤ 100000) := hNN
  have HRP : Hid (Rp L hi (b) q m) := hr
  have HB : Hid (Bdy L lo hi n) := hb
  clear h hA hR hN hM hNN hr hb
  obtain ⟨c, p, hc0, hbd⟩ := HB.out
  have hlo := (List.getElem?_eq_some_iff.1 hc0).1
  have cc := H.out.cu.bs lo (c, p) hc0
  obtain ⟨r0, r1⟩ := H.out.cu.rg _ (List.mem_of_getElem? hc0)
  have HBD : Hid ((c = 40 ∧ sh 0 (L.drop lo) = n) ∨
    ((c == 40) = false ∧ ∃ k : Nat,
      ((k = 1 ∧ lo + 1 < hi ∧ ∃ d q, L[lo + 1]? = some (d, q) ∧ isNameB d = true) ∨ (k = 0 ∧ lo + 1 = hi) ∨ (k = 0 ∧ lo + 1 < hi ∧ ∃ d q, L[lo + 1]? = some (d, q) ∧ isNameB d = false)) ∧
      ((lo + 1 + k < hi ∧ (∃ q, L[lo + 1 + k]? = some (91, q)) ∧ 1 + k + sh 0 (L.drop (lo + 1 + k)) = n) ∨ (lo + 1 + k = hi ∧ n = 1 + k) ∨ (lo + 1 + k < hi ∧ n = 1 + k ∧ ∃ d q, L[lo + 1 + k]? = some (d, q) ∧ (d == 91) = false)))) := hbd
  clear hc0 hbd HB
  obtain ⟨C, gs, cs, ga, ca, T⟩ := P
  simp only at c0 cc r0 r1
  have HBN : Hid (lo + n = b) := hbn
  clear hbn
  go_enter Tryz.func186, Tryz.ntmps186
  go_upto_if 20 with fail
  go_cut [7] (fun bv wr => bv = .int .i64 (b : Int) ∧ wr = w)
  case first =>
    rcases HBD.out with ⟨rfl, hsh⟩ | ⟨hc, k, hk, hx⟩
    · have HSH : Hid (sh 0 (L.drop lo) = n) := hsh
      clear hsh
      go_wp2_with fail
      refine (shut_at ⟨C, gs, cs, ga, ca, T⟩ L lo b _ rfl w H.out.cu (by omega) (by rw [HSH.out]; exact HBN.out)).mono ?_
      rintro e w1 ⟨rfl, rfl⟩
      go_wp2
      go_meet
      case rel => exact ⟨rfl, rfl⟩
    · rcases hk with ⟨rfl, hlt, d, q', hd, hnm⟩ | ⟨rfl, hlt⟩ | ⟨rfl, hlt, d, q', hd, hnm⟩
      · have cd := H.out.cu.bs (lo + 1) (d, q') hd
        obtain ⟨s0, s1⟩ := H.out.cu.rg _ (List.mem_of_getElem? hd)
        simp only at cd s0 s1
        have HX : Hid ((lo + 1 + 1 < hi ∧ (∃ q, L[lo + 1 + 1]? = some (91, q)) ∧ 1 + 1 + sh 0 (L.drop (lo + 1 + 1)) = n) ∨ (lo + 1 + 1 = hi ∧ n = 1 + 1) ∨ (lo + 1 + 1 < hi ∧ n = 1 + 1 ∧ ∃ d q, L[lo + 1 + 1]? = some (d, q) ∧ (d == 91) = false)) := hx
        have HNM : Hid (isNameB d = true) := hnm
        clear hd hx hnm
        go_wp2_with fail
        refine (isName_any d w).mono ?_
        rw [HNM.out]
        rintro e w1 ⟨rfl, rfl⟩
        rcases HX.out with ⟨hl2, ⟨q2, hq2⟩, hn⟩ | ⟨hl2, hn⟩ | ⟨hl2, hn, d2, q2, hq2, h91⟩
        · have ce := H.out.cu.bs _ _ hq2
          have hq3 := (List.getElem?_eq_some_iff.1 hq2).1
          simp only at ce
          have HSH : Hid (lo + 1 + 1 + sh 0 (L.drop (lo + 1 + 1)) = b) := by have := HBN.out; have := HBN.out; show _ = _; omega
          clear hn hq2
          go_wp2_with fail
          refine (shut_at ⟨C, gs, cs, ga, ca, T⟩ L (lo + 1 + 1) (b) _ (by push_cast; omega) _ H.out.cu (by omega) HSH.out).mono ?_
          rintro e w2 ⟨rfl, rfl⟩
          go_wp2
          go_meet
          case rel => exact ⟨rfl, rfl⟩
        · have HN2 : Hid (n = 1 + 1) := hn
          clear hn
          go_wp2
          go_meet
          case rel => exact ⟨congrArg (Value.int .i64) (by have := HN2.out; have := HBN.out; omega), rfl⟩
        · have ce := H.out.cu.bs _ _ hq2
          have hq3 := (List.getElem?_eq_some_iff.1 hq2).1
          obtain ⟨x0, x1⟩ := H.out.cu.rg _ (List.mem_of_getElem? hq2)
          simp only at ce x0 x1
          have HN2 : Hid (n = 1 + 1) := hn
          clear hn hq2
          go_wp2
          go_meet
          case rel => exact ⟨congrArg (Value.int .i64) (by have := HN2.out; have := HBN.out; omega), rfl⟩
      · have HN2 : Hid (n = 1) := by rcases hx with ⟨h1, _⟩ | ⟨_, h1⟩ | ⟨h1, _⟩ <;> (show _ = _; omega)
        clear hx
        go_wp2
        go_meet
        case rel => exact ⟨congrArg (Value.int .i64) (by have := HN2.out; have := HBN.out; omega), rfl⟩
      · have cd := H.out.cu.bs (lo + 1) (d, q') hd
        obtain ⟨s0, s1⟩ := H.out.cu.rg _ (List.mem_of_getElem? hd)
        simp only at cd s0 s1
        have HX : Hid ((lo + 1 + 0 < hi ∧ (∃ q, L[lo + 1 + 0]? = some (91, q)) ∧ 1 + 0 + sh 0 (L.drop (lo + 1 + 0)) = n) ∨ (lo + 1 + 0 = hi ∧ n = 1 + 0) ∨ (lo + 1 + 0 < hi ∧ n = 1 + 0 ∧ ∃ d q, L[lo + 1 + 0]? = some (d, q) ∧ (d == 91) = false)) := hx
        have HNM : Hid (isNameB d = false) := hnm
        have HD : Hid (L[lo + 1]? = some (d, q')) := hd
        clear hd hx hnm
        go_wp2_with fail
        refine (isName_any d w).mono ?_
        rw [HNM.out]
        rintro e w1 ⟨rfl, rfl⟩
        rcases HX.out with ⟨hl2, ⟨q2, hq2⟩, hn⟩ | ⟨hl2, hn⟩ | ⟨hl2, hn, d2, q2, hq2, h91⟩
        · obtain rfl : d = 91 := by have := HD.out; simp only [Nat.add_zero] at hq2; rw [hq2] at this; simp at this; exact this.1.symm
          have hq3 := (List.getElem?_eq_some_iff.1 hq2).1
          have HSH : Hid (lo + 1 + sh 0 (L.drop (lo + 1)) = b) := by simp only [Nat.add_zero] at hn; have := HBN.out; show _ = _; omega
          clear hn hq2
          go_wp2_with fail
          refine (shut_at ⟨C, gs, cs, ga, ca, T⟩ L (lo + 1) (b) _ (by push_cast; omega) _ H.out.cu (by omega) HSH.out).mono ?_
          rintro e w2 ⟨rfl, rfl⟩
          go_wp2
          go_meet
          case rel => exact ⟨rfl, rfl⟩
        · omega
        · obtain rfl : d = d2 := by have := HD.out; simp only [Nat.add_zero] at hq2; rw [hq2] at this; simp at this; exact this.1.symm
          have HN2 : Hid (n = 1) := by have := HBN.out; have := HBN.out; show _ = _; omega
          clear hn hq2
          go_wp2
          go_meet
          case rel => exact ⟨congrArg (Value.int .i64) (by have := HN2.out; have := HBN.out; omega), rfl⟩
  case rest =>
    obtain ⟨rfl, hwc⟩ := hcut
    have hwc2 := hwc.symm
    subst hwc2
    clear hwc
    have HNA : Hid (ps.length + (pa ps.length ss.length).length ≤ 100000) := by
      have := HNN.out.1
      show _ ≤ _
      unfold rep1 at this
      split at this
      · exact this
      · simp at this; omega
    go_wp2_with fail
    refine (HA.out.at (by rfl) (by rfl) H.out HNA.out HNN.out.2).mono ?_
    rintro e w1 ⟨rfl, pv1, sv1, ss1, hss, t1, k1⟩
    have HSS : Hid (ss1.map (·.1) = sa) := hss
    have HRR2 := HRR.out
    have hNN2 := HNN.out.1
    have hN2 := HN.out
    have hM2 := HM.out
    have HsL : Hid (ss1.length = sa.length) := by have := congrArg List.length HSS.out; show _ = _; simpa using this
    have hR2 : (b + m = hi ∧ np ps.length ss.length = rep1 (pa ps.length ss.length) ps.length q ∧ ns = sa) ∨
      (b + m < hi ∧ ∃ pb sb, CutOk 186 ⟨C, gs, cs, ga, ca, T⟩ B L root win (b + m) hi pb sb ∧ ns = sa ++ sb ∧ np ps.length ss.length = rep1 (pa ps.length ss.length) ps.length q ++ (pb (ps.length + (rep1 (pa ps.length ss.length) ps.length q).length) (ss.length + ss1.length) ++ [⟨1, (ps.length : Int) + (rep1 (pa ps.length ss.length) ps.length q).length - 1, (ps.length : Int) + (rep1 (pa ps.length ss.length) ps.length q).length + (pb (ps.length + (rep1 (pa ps.length ss.length) ps.length q).length) (ss.length + ss1.length)).length - 1, 0, 0, 0⟩])) := by
      rcases HRR2 with ⟨e0, e1, e2⟩ | ⟨e0, pb, sb, hB, e2, e1⟩
      · exact Or.inl ⟨e0, e1 _ _, e2⟩
      · refine Or.inr ⟨e0, pb, sb, hB, e2, ?_⟩
        rw [HsL.out]; exact e1 _ _
    clear HRR2 HRR
    generalize np ps.length ss.length = NP at *
    generalize pa ps.length ss.length = A at *
    have HR2 : Hid ((b + m = hi ∧ NP = rep1 A ps.length q ∧ ns = sa) ∨
      (b + m < hi ∧ ∃ pb sb, CutOk 186 ⟨C, gs, cs, ga, ca, T⟩ B L root win (b + m) hi pb sb ∧ ns = sa ++ sb ∧ NP = rep1 A ps.length q ++ (pb (ps.length + (rep1 A ps.length q).length) (ss.length + ss1.length) ++ [⟨1, (ps.length : Int) + (rep1 A ps.length q).length - 1, (ps.length : Int) + (rep1 A ps.length q).length + (pb (ps.length + (rep1 A ps.length q).length) (ss.length + ss1.length)).length - 1, 0, 0, 0⟩]))) := hR2
    have HN3 : Hid (ps.length + (rep1 A ps.length q).length ≤ 100000) := hNN2
    have HN4 : Hid (ps.length + NP.length ≤ 100000) := hN2
    have HM4 : Hid (ss.length + ns.length ≤ 100000) := hM2
    have T1 : Hid (TS w1 ⟨C, gs, cs, ga, ca, T⟩ B L pv1 sv1 root win (ps ++ A) (ss ++ ss1)) := t1
    have K1 : Hid (KT T B w w1) := k1
    have d0 := t1.cu.c0
    simp only at d0
    have hAl : ps.length + A.length ≤ 100000 := HNA.out
    clear hss hR2 hNN2 hN2 hM2 t1 k1 c0 cc HN HNN HM HNA
    go_upto_if 63 with fail
    go_cut [8, 9] (fun l nx wr => l = .int .i64 ((ps.length : Int) + (rep1 A ps.length q).length - 1) ∧ nx = .int .i64 ((b + m : Nat) : Int) ∧ ∃ pv2, TS wr ⟨C, gs, cs, ga, ca, T⟩ B L pv2 sv1 root win (ps ++ rep1 A ps.length q) (ss ++ ss1) ∧ KT T B w wr)
    case first =>
      rcases HRP.out with ⟨e1, e2, hq⟩ | ⟨hlt, e2, ⟨p1, hx⟩, e1⟩ | ⟨hlt, e2, ⟨p1, hx⟩, e1⟩ | ⟨hlt, e2, ⟨p1, hx⟩, e1⟩ | ⟨hlt, e2, p0, a, p1, d, p2, hx0, hx1, hx2, r3, r4, r5, r6, e1⟩
      · have E1 : Hid (q = none) := e1
        have E2 : Hid (m = 0) := e2
        clear e1 e2
        rcases hq with hq | ⟨hq, d, p3, hd, b1, b2, b3, b4⟩
        · go_wp2
          go_meet
          case rel => exact ⟨by rw [E1.out]; rfl, congrArg (Value.int .i64) (by have := E2.out; omega), pv1, by rw [E1.out]; exact T1.out, K1.out⟩
        · have ce := T1.out.cu.bs _ _ hd
          have hq3 := (List.getElem?_eq_some_iff.1 hd).1
          obtain ⟨x0, x1⟩ := T1.out.cu.rg _ (List.mem_of_getElem? hd)
          simp only at ce x0 x1
          clear hd
          go_wp2
          go_meet
          case rel => exact ⟨by rw [E1.out]; rfl, congrArg (Value.int .i64) (by have := E2.out; omega), pv1, by rw [E1.out]; exact T1.out, K1.out⟩
      · have E1 : Hid (q = some (0, -1)) := e1
        have E2 : Hid (m = 1) := e2
        have ce := T1.out.cu.bs _ _ hx
        have hq3 := (List.getElem?_eq_some_iff.1 hx).1
        simp only at ce
        clear e1 e2 hx
        go_wp2_with fail
        refine (part_at ⟨C, gs, cs, ga, ca, T⟩ B L pv1 sv1 root win (ps ++ A) (ss ++ ss1) ⟨3, (ps.length : Int) + A.length - 1, 0, 0, -1, 0⟩ w1 T1.out (by simp; omega) rfl rfl rfl rfl rfl rfl).mono ?_
        rintro e w2 ⟨rfl, pv2, t2, k2⟩
        have T2 : Hid (TS w2 ⟨C, gs, cs, ga, ca, T⟩ B L pv2 sv1 root win ((ps ++ A) ++ [⟨3, (ps.length : Int) + A.length - 1, 0, 0, -1, 0⟩]) (ss ++ ss1)) := t2
        have K2 : Hid (KT T B w w2) := K1.out.trans k2
        clear t2 k2
        go_wp2
        go_meet
        case rel => exact ⟨congrArg (Value.int .i64) (by rw [E1.out]; simp [rep1]; omega), congrArg (Value.int .i64) (by have := E2.out; omega), pv2, by rw [E1.out]; have := T2.out; rw [List.append_assoc] at this; exact this, K2.out⟩
      · have E1 : Hid (q = some (1, -1)) := e1
        have E2 : Hid (m = 1) := e2
        have ce := T1.out.cu.bs _ _ hx
        have hq3 := (List.getElem?_eq_some_iff.1 hx).1
        simp only at ce
        clear e1 e2 hx
        go_wp2_with fail
        refine (part_at ⟨C, gs, cs, ga, ca, T⟩ B L pv1 sv1 root win (ps ++ A) (ss ++ ss1) ⟨3, (ps.length : Int) + A.length - 1, 0, 1, -1, 0⟩ w1 T1.out (by simp; omega) rfl rfl rfl rfl rfl rfl).mono ?_
        rintro e w2 ⟨rfl, pv2, t2, k2⟩
        have T2 : Hid (TS w2 ⟨C, gs, cs, ga, ca, T⟩ B L pv2 sv1 root win ((ps ++ A) ++ [⟨3, (ps.length : Int) + A.length - 1, 0, 1, -1, 0⟩]) (ss ++ ss1)) := t2
        have K2 : Hid (KT T B w w2) := K1.out.trans k2
        clear t2 k2
        go_wp2
        go_meet
        case rel => exact ⟨congrArg (Value.int .i64) (by rw [E1.out]; simp [rep1]; omega), congrArg (Value.int .i64) (by have := E2.out; omega), pv2, by rw [E1.out]; have := T2.out; rw [List.append_assoc] at this; exact this, K2.out⟩
      · have E1 : Hid (q = some (0, 1)) := e1
        have E2 : Hid (m = 1) := e2
        have ce := T1.out.cu.bs _ _ hx
        have hq3 := (List.getElem?_eq_some_iff.1 hx).1
        simp only at ce
        clear e1 e2 hx
        go_wp2_with fail
        refine (part_at ⟨C, gs, cs, ga, ca, T⟩ B L pv1 sv1 root win (ps ++ A) (ss ++ ss1) ⟨3, (ps.length : Int) + A.length - 1, 0, 0, 1, 0⟩ w1 T1.out (by simp; omega) rfl rfl rfl rfl rfl rfl).mono ?_
        rintro e w2 ⟨rfl, pv2, t2, k2⟩
        have T2 : Hid (TS w2 ⟨C, gs, cs, ga, ca, T⟩ B L pv2 sv1 root win ((ps ++ A) ++ [⟨3, (ps.length : Int) + A.length - 1, 0, 0, 1, 0⟩]) (ss ++ ss1)) := t2
        have K2 : Hid (KT T B w w2) := K1.out.trans k2
        clear t2 k2
        go_wp2
        go_meet
        case rel => exact ⟨congrArg (Value.int .i64) (by rw [E1.out]; simp [rep1]; omega), congrArg (Value.int .i64) (by have := E2.out; omega), pv2, by rw [E1.out]; have := T2.out; rw [List.append_assoc] at this; exact this, K2.out⟩
      · have E1 : Hid (q = some (a - 48, d - 48)) := e1
        have E2 : Hid (m = 4) := e2
        have ce := T1.out.cu.bs _ _ hx0
        have cf := T1.out.cu.bs _ _ hx1
        have cg := T1.out.cu.bs _ _ hx2
        have hq3 := (List.getElem?_eq_some_iff.1 hx2).1
        simp only at ce cf cg
        have HX1 : Hid (L[b + 1]? = some (a, p1)) := hx1
        have HX2 : Hid (L[b + 2]? = some (d, p2)) := hx2
        clear e1 e2 hx0 hx1 hx2
        have ix1 : (b : Int) + 1 < L.length := by omega
        have ix2 : (b : Int) + 2 < L.length := by omega
        have ix3 : (0 : Int) ≤ (b : Int) + 1 := by omega
        have ix4 : (0 : Int) ≤ (b : Int) + 2 := by omega
        have ix5 : IntKind.i64.wrap ((b : Int) + 1) = (b : Int) + 1 := IntWalk.i64_in _ (by omega)
        have ix6 : IntKind.i64.wrap ((b : Int) + 2) = (b : Int) + 2 := IntWalk.i64_in _ (by omega)
        have ix7 : ((b : Int) + 1).toNat = b + 1 := by omega
        have ix8 : ((b : Int) + 2).toNat = b + 2 := by omega
        have wa : IntKind.u8.wrap (a - 48) = a - 48 := IntWalk.u8_in _ (by omega)
        have wb : IntKind.u8.wrap (d - 48) = d - 48 := IntWalk.u8_in _ (by omega)
        have wa' : IntKind.i64.wrap (a - 48) = a - 48 := IntWalk.i64_in _ (by omega)
        have wb' : IntKind.i64.wrap (d - 48) = d - 48 := IntWalk.i64_in _ (by omega)
        go_wp2
        go_region_held3 (fun w' => w'.cell? ⟨C, 0, none⟩ = some (.slice (some ⟨gs, 0, none⟩) L.length cs) ∧ w'.cell? ⟨gs, b + 1, none⟩ = some (.int .u8 a) ∧ w'.cell? ⟨gs, b + 2, none⟩ = some (.int .u8 d)) (first | exact ⟨d0, cf, cg⟩ | exact ⟨t2.cu.c0, t2.cu.bs _ _ HX1.out, t2.cu.bs _ _ HX2.out⟩)
          ((go_at_call 187; refine (part_at ⟨C, gs, cs, ga, ca, T⟩ B L pv1 sv1 root win (ps ++ A) (ss ++ ss1) ⟨3, (ps.length : Int) + A.length - 1, 0, a - 48, d - 48, 0⟩ _ (T1.out.nw ((Kp.refl _ _).drewN _)) (by simp; omega) rfl rfl rfl rfl rfl rfl).mono ?_; rintro e w2 ⟨rfl, pv2, t2, k2⟩))
        all_goals
          have T2 : Hid (TS w2 ⟨C, gs, cs, ga, ca, T⟩ B L pv2 sv1 root win ((ps ++ A) ++ [⟨3, (ps.length : Int) + A.length - 1, 0, a - 48, d - 48, 0⟩]) (ss ++ ss1)) := t2
          have K2 : Hid (KT T B w w2) := (K1.out.drewN _).trans k2
          clear t2 k2
          go_wp2
          go_meet
          case rel => exact ⟨congrArg (Value.int .i64) (by rw [E1.out]; simp [rep1]; omega), congrArg (Value.int .i64) (by have := E2.out; omega), pv2, by rw [E1.out]; have := T2.out; rw [List.append_assoc] at this; exact this, K2.out⟩
    case rest =>
      obtain ⟨rfl, rfl, pv2, t2, k2⟩ := hcut
      have T2 : Hid (TS wc ⟨C, gs, cs, ga, ca, T⟩ B L pv2 sv1 root win (ps ++ rep1 A ps.length q) (ss ++ ss1)) := t2
      have K2 : Hid (KT T B w wc) := k2
      clear t2 k2 T1 K1 HRP HA HBD
      rcases HR2.out with ⟨he, e1, e2⟩ | ⟨he, pb, sb, hB, e2, e1⟩
      · have E1 : Hid (NP = rep1 A ps.length q) := e1
        have E2 : Hid (ns = sa) := e2
        clear e1 e2 HR2
        go_wp2
        go_ret
        exact ⟨by rw [E1.out]; rfl, pv2, sv1, ss1, by rw [E2.out]; exact HSS.out, by rw [E1.out]; exact T2.out, K2.out⟩
      · have hb4 := HN4.out
        have hb5 := HM4.out
        have hb6 := HsL.out
        rw [e1] at hb4
        rw [e2] at hb5
        simp only [List.length_append, List.length_cons, List.length_nil] at hb4 hb5
        have hb7 : (ps ++ rep1 A ps.length q).length = ps.length + (rep1 A ps.length q).length := List.length_append
        have hb8 : (ss ++ ss1).length = ss.length + ss1.length := List.length_append
        have E2 : Hid (ns = sa ++ sb) := e2
        have HB : Hid (CutOk 186 ⟨C, gs, cs, ga, ca, T⟩ B L root win (b + m) hi pb sb) := hB
        rw [← hb7, ← hb8] at e1 hb4
        have E1 : Hid (NP = rep1 A ps.length q ++ (pb (ps ++ rep1 A ps.length q).length (ss ++ ss1).length ++ [⟨1, (ps.length : Int) + (rep1 A ps.length q).length - 1, (ps.length : Int) + (rep1 A ps.length q).length + (pb (ps ++ rep1 A ps.length q).length (ss ++ ss1).length).length - 1, 0, 0, 0⟩])) := e1
        have HB4 : Hid ((ps ++ rep1 A ps.length q).length + (pb (ps ++ rep1 A ps.length q).length (ss ++ ss1).length).length + 1 ≤ 100000) := by show _ ≤ _; omega
        have HB5 : Hid ((ss ++ ss1).length + sb.length ≤ 100000) := by show _ ≤ _; omega
        have HB7 : Hid ((ps ++ rep1 A ps.length q).length = ps.length + (rep1 A ps.length q).length) := hb7
        clear e1 e2 hB hb4 hb5 hb6 hb7 hb8 HR2 HN4 HM4
        go_wp2_with fail
        refine (HB.out.at (by push_cast; rfl) (by rfl) T2.out (by have := HB4.out; omega) HB5.out).mono ?_
        rintro e w3 ⟨rfl, pv3, sv3, ss3, hss3, t3, k3⟩
        generalize pb (ps ++ rep1 A ps.length q).length (ss ++ ss1).length = D at *
        generalize rep1 A ps.length q = R at *
        have T3 : Hid (TS w3 ⟨C, gs, cs, ga, ca, T⟩ B L pv3 sv3 root win ((ps ++ R) ++ D) ((ss ++ ss1) ++ ss3)) := t3
        have K3 : Hid (KT T B w w3) := K2.out.trans k3
        have HS3 : Hid (ss3.map (·.1) = sb) := hss3
        clear t3 k3 hss3
        go_wp2_with fail
        refine (part_at ⟨C, gs, cs, ga, ca, T⟩ B L pv3 sv3 root win ((ps ++ R) ++ D) ((ss ++ ss1) ++ ss3) ⟨1, (ps.length : Int) + R.length - 1, ((ps ++ R).length : Int) + D.length - 1, 0, 0, 0⟩ w3 T3.out (by have := HB4.out; simp only [List.length_append] at this ⊢; omega) rfl (by show _ = (ps.length : Int) + R.length - 1; push_cast; omega) (by show _ = ((ps ++ R).length : Int) + D.length - 1; simp only [List.length_append]; push_cast; omega) rfl rfl rfl).mono ?_
        rintro e w4 ⟨rfl, pv4, t4, k4⟩
        have T4 : Hid (TS w4 ⟨C, gs, cs, ga, ca, T⟩ B L pv4 sv3 root win (((ps ++ R) ++ D) ++ [⟨1, (ps.length : Int) + R.length - 1, ((ps ++ R).length : Int) + D.length - 1, 0, 0, 0⟩]) ((ss ++ ss1) ++ ss3)) := t4
        have K4 : Hid (KT T B w w4) := K3.out.trans k4
        clear t4 k4
        go_wp2
        go_ret
        refine ⟨ret_intC (by rw [E1.out]; simp; omega), pv4, sv3, ss1 ++ ss3, by rw [E2.out, List.map_append, HSS.out, HS3.out], ?_, K4.out⟩
        have := T4.out
        rw [HB7.out] at this
        rw [E1.out]
        simpa [List.append_assoc] using this
end Go.Proofs.YtcboiapggnmpfaaGreat
