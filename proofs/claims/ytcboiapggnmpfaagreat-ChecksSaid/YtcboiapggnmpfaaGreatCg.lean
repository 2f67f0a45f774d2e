/- Walks: spotterref: the cutter's steps. -/
import Derived.Test.YtcboiapggnmpfaaGreatCj
namespace Go.Proofs.YtcboiapggnmpfaaGreat
open Go.RowKit
set_option linter.unusedSimpArgs false
set_option linter.unusedVariables false

set_option maxRecDepth 100000 in
set_option maxHeartbeats 40000000 in
theorem atomStep_any (P : CuP) (B : Nat) (L : List Tok) (root win : Int) (lo hi : Nat) (s : St) (u : List Tok) (hy : ySt s u) (hS : Sub L lo u) (hhi : lo + u.length = hi) :
    CutOk 227 P B L root win lo hi (fun _ m => [⟨0, 0, 0, 0, 0, m⟩]) [s] := by
  intro ps ss pv sv w h hN hM
  obtain ⟨kind, name, pos, tests⟩ := s
  obtain ⟨c, ya, yb, hu, hc, hkd, hnm, hbx⟩ := hy
  simp only at hu hkd hnm hbx
  subst hu
  have H : Hid (TS w P B L pv sv root win ps ss) := h
  have c0 := h.cu.c0
  have c1 := h.cu.c1
  have hlen := h.cu.len
  have hh := hS.head
  have hlo := (List.getElem?_eq_some_iff.1 hh).1
  have cs0 := h.cu.bs _ _ hh
  have ca0 := h.cu.pl _ _ hh
  have hltC := h.cu.ltC
  have hlts := h.cu.lts
  have hlta := h.cu.lta
  rw [isKind_iff] at hc
  simp only at cs0 ca0
  have g40 : (c == 40) = false := by simp; omega
  have wc : IntKind.i64.wrap c = c := IntWalk.i64_in _ (by omega)
  have wc2 : IntKind.i64.wrap (c - 97) = c - 97 := IntWalk.i64_in _ (by omega)
  have hne1 : ¬ P.C = w.heap.size := by omega
  have hne2 : ¬ P.gs = w.heap.size := by omega
  have hne3 : ¬ P.ga = w.heap.size := by omega
  obtain ⟨C, gs, cs, ga, ca, T⟩ := P
  simp only at *
  clear h hh
  go_enter Tryz.func227, Tryz.ntmps227
  go_wp2
  go_region_held3 (fun w' => w'.cell? ⟨C, 0, none⟩ = some (.slice (some ⟨gs, 0, none⟩) L.length cs) ∧ w'.cell? ⟨C, 1, none⟩ = some (.slice (some ⟨ga, 0, none⟩) L.length ca) ∧ w'.cell? ⟨gs, lo, none⟩ = some (.int .u8 c) ∧ w'.cell? ⟨ga, lo, none⟩ = some (.int .i64 pos)) (first | exact ⟨c0, c1, cs0, ca0⟩ | (simp [go_sem, c0, c1, cs0, ca0, hltC, hlts, hlta, hne1, hne2, hne3, World.cell?_alloc_past]; done)) (first | fail | fail)
  have HQ : Hid (∀ W, Nw w W → W.cell? ⟨C, 0, none⟩ = some (.slice (some ⟨gs, 0, none⟩) L.length cs) ∧ W.cell? ⟨gs, lo, none⟩ = some (.int .u8 c)) := fun W k => ⟨(k.cell (p := ⟨C, 0, none⟩) hltC (fun h => h)).trans c0, (k.cell (p := ⟨gs, lo, none⟩) hlts (fun h => h)).trans cs0⟩
  have HKD : Hid (kind = kindV c) := hkd
  have HNM : Hid (yNm name ya) := hnm
  have HBX : Hid (yBox tests yb) := hbx
  have HSU : Hid (Sub L lo ((c, pos) :: (ya ++ yb))) := hS
  have HHI : Hid (lo + ((c, pos) :: (ya ++ yb)).length = hi) := hhi
  have HN : Hid (ps.length + 1 ≤ 100000) := hN
  have HM : Hid (ss.length + 1 ≤ 100000) := hM
  clear hkd hnm hbx hS hhi hN hM
  go_upto_if 49 with fail
  go_cut [7] (fun p wr => p = .pointer (some ⟨w.heap.size, 0, none⟩) ∧ SA wr w.heap.size kind (-1) pos (.slice none 0 0) ∧ Nw w wr)
  case first =>
    by_cases h46 : c = 46
    · have g46 : (c == 46) = true := by simp [h46]
      have HK : Hid (kind = 4) := by show _ = _; rw [HKD.out, kindV, if_pos h46]
      clear h46
      go_wp2
      go_meet
      case rel =>
        refine ⟨rfl, ?_, ((Kp.refl _ w).alloc _).drew⟩
        rw [HK.out]
        constructor <;> simp [go_sem]
    · have g46 : (c == 46) = false := by simp [h46]
      have HK : Hid (kind = c - 97) := by show _ = _; rw [HKD.out, kindV, if_neg h46]
      clear h46
      go_wp2
      go_meet
      case rel =>
        refine ⟨rfl, ?_, ((Kp.refl _ w).alloc _).drew⟩
        rw [HK.out]
        constructor <;> simp [go_sem]
  case rest =>
    obtain ⟨rfl, hsa, hk⟩ := hcut
    obtain ⟨e0, e1⟩ := HQ.out wc hk
    have SA1 : Hid (SA wc w.heap.size kind (-1) pos (.slice none 0 0)) := hsa
    have K1 : Hid (Nw w wc) := hk
    have s1 := hsa.c1
    have sz1 := hsa.fz
    have hi1 := HHI.out
    simp only [List.length_cons, List.length_append] at hi1
    have HHL : Hid (lo + 1 + ya.length + yb.length = hi) := by show _ = _; omega
    have HS1 : Hid (Sub L (lo + 1) (ya ++ yb)) := HSU.out.tail
    clear hsa hk HQ HKD hi1 HHI HSU
    obtain ⟨nb, hnb⟩ : ∃ nb : Bool, nb = decide (0 < ya.length) := ⟨_, rfl⟩
    have HNB : Hid (nb = decide (0 < ya.length)) := hnb
    clear hnb
    go_upto_region 7 with fail
    go_cut [66] (fun t wr => t = .bool nb ∧ wr = wc)
    case first =>
      rcases HNM.out with ⟨en, ea⟩ | ⟨d, q, hd, ea, en⟩
      · rcases HBX.out with ⟨eb, ec⟩ | ⟨p2, v2, ec, hv2⟩
        · have hl : lo + 1 = hi := by have := HHL.out; rw [ea, ec] at this; simpa using this
          have E : Hid (ya = []) := ea
          clear en ea eb ec
          go_wp2
          go_meet
          case rel => exact ⟨by rw [HNB.out, E.out]; rfl, rfl⟩
        · have hl : lo + 1 < hi := by have := HHL.out; rw [ea, ec] at this; simp at this; omega
          have hq := HS1.out
          rw [ea, ec, List.nil_append] at hq
          have hq0 := hq.head
          have hq3 := (List.getElem?_eq_some_iff.1 hq0).1
          have ce := (H.out.cu.nw K1.out).bs _ _ hq0
          simp only at ce
          have E : Hid (ya = []) := ea
          clear en ea ec hq hq0 hv2
          go_wp2_with fail
          refine (isName_any 91 wc).mono ?_
          rintro e w1 ⟨rfl, rfl⟩
          go_wp2
          go_meet
          case rel => exact ⟨by rw [HNB.out, E.out]; rfl, rfl⟩
      · have hl : lo + 1 < hi := by have := HHL.out; rw [ea] at this; simp at this; omega
        have hq := HS1.out
        rw [ea, List.cons_append] at hq
        have hq0 := hq.head
        have hq3 := (List.getElem?_eq_some_iff.1 hq0).1
        have ce := (H.out.cu.nw K1.out).bs _ _ hq0
        have hd2 := (isName_iff _).1 hd
        simp only at ce
        have E : Hid (ya = [(d, q)]) := ea
        have HD : Hid (isNameB d = true) := hd
        clear en ea hq hq0 hd
        go_wp2_with fail
        refine (isName_any d wc).mono ?_
        rw [HD.out]
        rintro e w1 ⟨rfl, rfl⟩
        go_wp2
        go_meet
        case rel => exact ⟨by rw [HNB.out, E.out]; rfl, rfl⟩
    case rest =>
      obtain ⟨rfl, hwc⟩ := hcut
      have hwc2 := hwc.symm
      subst hwc2
      clear hwc
      go_upto_if 66 with fail
      go_cut [8] (fun iv wr => iv = .int .i64 ((lo + 1 + ya.length : Nat) : Int) ∧ SA wr w.heap.size kind name pos (.slice none 0 0) ∧ Nw w wr)
      case first =>
        rcases HNM.out with ⟨en, ea⟩ | ⟨d, q, hd, ea, en⟩
        · have E : Hid (ya = []) := ea
          have EN : Hid (name = -1) := en
          obtain rfl : nb = false := by rw [HNB.out, ea]; rfl
          clear en ea
          go_wp2
          go_meet
          case rel => exact ⟨by rw [E.out]; rfl, by rw [EN.out]; exact SA1.out, K1.out⟩
        · have hq := HS1.out
          rw [ea, List.cons_append] at hq
          have hq0 := hq.head
          have hq3 := (List.getElem?_eq_some_iff.1 hq0).1
          have ce := (H.out.cu.nw K1.out).bs _ _ hq0
          have hd2 := (isName_iff _).1 hd
          simp only at ce
          have E : Hid (ya = [(d, q)]) := ea
          have EN : Hid (name = d - 65) := en
          obtain rfl : nb = true := by rw [HNB.out, ea]; rfl
          clear en ea hq hq0 hd
          go_wp2
          go_meet
          case rel =>
            refine ⟨by rw [E.out]; exact congrArg (Value.int .i64) (by simp), ?_, K1.out.setCell (p := ⟨w.heap.size, 1, none⟩) (Or.inl (Nat.le_refl _)) _⟩
            rw [EN.out]
            obtain ⟨q0, q1, q2, q3, q4, q5⟩ := SA1.out
            constructor <;> simp [go_sem, q0, q1, q2, q3, q4, q5]
      case rest =>
        obtain ⟨rfl, hsa, hk⟩ := hcut
        have SA2 : Hid (SA wc w.heap.size kind name pos (.slice none 0 0)) := hsa
        have K2 : Hid (Nw w wc) := hk
        obtain ⟨j0, hj0⟩ : ∃ j0, lo + 1 + ya.length = j0 := ⟨_, rfl⟩
        have hst : (tests = [] ∧ j0 = hi) ∨ ∃ v, yTsts tests v ∧ Sub L (j0 + 1) v ∧ j0 + 1 + v.length = hi := by
          have h1 := HHL.out
          rcases HBX.out with ⟨eb, ec⟩ | ⟨p2, v2, ec, hv2⟩
          · rw [ec] at h1; simp at h1; exact Or.inl ⟨eb, by omega⟩
          · have h2 := HS1.out.right hj0.symm
            rw [ec] at h2 h1
            exact Or.inr ⟨v2, hv2, h2.tail, by simp at h1; omega⟩
        have HST : Hid ((tests = [] ∧ j0 = hi) ∨ ∃ v, yTsts tests v ∧ Sub L (j0 + 1) v ∧ j0 + 1 + v.length = hi) := hst
        have hhL : hi ≤ L.length := by
          have h1 := HHL.out
          have := HS1.out.le
          by_cases hz : 0 < (ya ++ yb).length
          · have := this hz; simp at this; omega
          · simp at hz; simp [hz.1, hz.2] at h1; omega
        have HJ0 : Hid (lo + 1 + ya.length = j0) := hj0
        have HTL : Hid (tests.length ≤ 1000) := by
          show _ ≤ _
          rcases hst with ⟨e, _⟩ | ⟨v, hv, _, hl⟩
          · rw [e]; simp
          · have := yTsts_len _ _ hv; omega
        rw [hj0]
        clear hsa hk SA1 K1 HNM HBX HHL HS1 HNB hst hj0 e0 e1 s1 sz1 c0 c1 cs0 ca0 wc2
        obtain ⟨it, hit, ht0, ht1, ht2⟩ := info_parts Tryz.info38
        go_wp2
        go_loopg [8] tests.length (fun m v8 wr => ∃ (i : Nat) (dn ts : List Tst) (tv : Value), v8 = .int .i64 i ∧ m = ts.length ∧ tests = dn ++ ts ∧ ((ts = [] ∧ i = hi) ∨ ∃ v, yTsts ts v ∧ Sub L (i + 1) v ∧ i + 1 + v.length = hi) ∧ SA wr w.heap.size kind name pos tv ∧ wr.ownsRow (w.heap.size + 1) 38 11 tv dn.length (tssC dn) ∧ Nw w wr)
        case atStart => exact ⟨j0, [], tests, .slice none 0 0, rfl, rfl, rfl, HST.out, SA2.out, World.ownsRow_nil _ _ _ _, K2.out⟩
        case round =>
          obtain ⟨i, dn, ts, tv, rfl, hm, htt, hcase, hsa, hown, hk⟩ := hrel
          have SA3 : Hid (SA wr w.heap.size kind name pos tv) := hsa
          have K3 : Hid (Nw w wr) := hk
          have O3 : Hid (wr.ownsRow (w.heap.size + 1) 38 11 tv dn.length (tssC dn)) := hown
          have HTT : Hid (tests = dn ++ ts) := htt
          have HMM : Hid (gk = ts.length) := hm
          have f0 := (H.out.cu.nw hk).c0
          simp only at f0
          clear hm htt SA2 K2 HST HJ0
          rcases hcase with ⟨hts, hih⟩ | ⟨v, hv, hsv, hil⟩
          · have hdt : tests = dn := by rw [HTT.out, hts, List.append_nil]
            subst hts
            subst hdt
            subst hih
            have TR : Hid (TS wr ⟨C, gs, cs, ga, ca, T⟩ B L pv sv root win ps ss) := H.out.nw hk
            obtain ⟨tp, tc, htv⟩ := owns_lenC hown
            subst htv
            have OT : Hid (wr.ownsRow B 38 11 (.slice tp tests.length tc) tests.length (tssC tests)) := owns_base' O3.out (by have := H.out.hB; omega)
            have d2 := TR.out.cu.c2
            have t1 := TR.out.tr.c1
            have fz := TR.out.tr.fz
            have hown2 := TR.out.steps
            have hB := TR.out.hB
            have hTB := TR.out.hT
            have hCB := TR.out.hC
            have hTC := TR.out.neC
            have hlC := TR.out.cu.ltC
            have hlT := TR.out.tr.lt
            have y0 := hsa.c0
            have y1 := hsa.c1
            have y2 := hsa.c2
            have y3 := hsa.c3
            have hSl := hsa.lt
            have hBw := H.out.hB
            simp only at d2 t1 fz hTB hCB hTC hlC hlT
            have hTC' : ¬ C = T := fun e => hTC e.symm
            have hne5 : ¬ C = wr.heap.size := by omega
            have hne6 : ¬ T = wr.heap.size := by omega
            have hne7 : ¬ w.heap.size = wr.heap.size := by omega
            have hne8 : ¬ wr.heap.size = T := by omega
            have hge : Hid (∀ b, sv.ownBlock = some b → B ≤ b ∧ b < wr.heap.size) := fun b hb => hown2.lt b hb
            have hTn : ¬ some T = sv.ownBlock := by intro e; have := hge.out T e.symm; omega
            have hCn : ¬ some C = sv.ownBlock := by intro e; have := hge.out C e.symm; omega
            have hMM := HM.out
            obtain ⟨is, his, hs0, hs1, hs2⟩ := info_parts Tryz.info173
            clear hk hown SA3 O3 HTT HMM f0 HTL hne1 hne2 hne3 his hs0 hs1 hs2 y0 y1 y2 y3
            go_upto_region 19 with fail
            go_cut [7] (fun p wx => p = .pointer (some ⟨w.heap.size, 0, none⟩) ∧ ∃ sv', TS wx ⟨C, gs, cs, ga, ca, T⟩ B L pv sv' root win ps (ss ++ [(⟨kind, name, pos, tests⟩, .slice tp tests.length tc)]) ∧ KT T B w wx)
            case first =>
              refine atom_end C gs cs ga ca T w.heap.size B L pv sv root win ps ss kind name pos tests tp tc w wr _ _ _ _ _ _ _ _ _ _ _ _ _ _ _ _ _ _ _ _ _ _ _ _ _ _ _ _ _ _ _ _ _ _ _ _ _ _ _ _ _ _ _ _ _ _ _ _ _ _ _ _ _ _ _ _ _ _ _ _ _ _ _ _ _ _ _ _ _ _ _ _ _ _ _ _ _ _ _ _ _ _ _ _ _ _ _ _ _ _ _ _ _ _ _ _ _ _ _ _ _ _ _ _ _ _ _ _ _ _ _ _ _ _ _ _ _ _ _ _ _ _ _ _ _ _ _ _ _ _ _ _ _ _ _ _ _ _ _ _ _ _ _ _ _ _ _ _ _ _ _ _ TR K3 OT hsa hMM ?_
              intro d125 d126 d127 d128 d129 d130 d131 d132 d133 d134 d135 d136 d137 d138 d139 d140 wx hx
              go_wp2
              go_meet
              case rel => exact ⟨rfl, hx⟩
            case rest =>
              obtain ⟨rfl, sv2, t2, k2⟩ := hcut
              have T2 : Hid (TS wc ⟨C, gs, cs, ga, ca, T⟩ B L pv sv2 root win ps (ss ++ [(⟨kind, name, pos, tests⟩, .slice tp tests.length tc)])) := t2
              have K2 : Hid (KT T B w wc) := k2
              have v2 := t2.cu.c2
              have v1 := t2.tr.c1
              obtain ⟨sp, sc, hsv⟩ := owns_lenC t2.steps
              subst hsv
              have hsl : (ss ++ [((⟨kind, name, pos, tests⟩, .slice tp tests.length tc) : St × Value)]).length = ss.length + 1 := by simp
              simp only [List.length_append, List.length_cons, List.length_nil] at v1
              have hNN := HN.out
              simp only at v2 v1
              clear t2 k2 d2 t1 fz hown2 OT hge hTn hCn K3 TR hsa
              go_wp2_with fail
              refine (part_at ⟨C, gs, cs, ga, ca, T⟩ B L pv _ root win ps (ss ++ [(⟨kind, name, pos, tests⟩, .slice tp tests.length tc)]) ⟨0, 0, 0, 0, 0, ss.length⟩ wc T2.out (by omega) rfl rfl rfl rfl rfl (by show _ = (ss.length : Int); push_cast; omega)).mono ?_
              rintro e w4 ⟨rfl, pv4, t4, k4⟩
              have T4 : Hid (TS w4 ⟨C, gs, cs, ga, ca, T⟩ B L pv4 (.slice sp (ss ++ [((⟨kind, name, pos, tests⟩, .slice tp tests.length tc) : St × Value)]).length sc) root win (ps ++ [⟨0, 0, 0, 0, 0, ss.length⟩]) (ss ++ [(⟨kind, name, pos, tests⟩, .slice tp tests.length tc)])) := t4
              have K4 : Hid (KT T B w w4) := K2.out.trans k4
              clear t4 k4 hsl
              go_wp2
              go_ret
              exact ⟨ret_intC (by simp), pv4, _, [(⟨kind, name, pos, tests⟩, .slice tp tests.length tc)], rfl, T4.out, K4.out⟩
          · cases ts with
            | nil => exact absurd hv (by simp [yTsts])
            | cons t ts =>
              have HMM2 : Hid (gk = ts.length + 1) := by have := HMM.out; show _ = _; simpa using this
              clear HMM
              obtain ⟨a, e, p, v', ev, hta, hend⟩ := yTsts_split hv
              subst ev
              have hdn : dn.length + 1 ≤ 1000 := by have := HTL.out; rw [HTT.out] at this; simp at this; omega
              have hsa1 : Sub L (i + 1) a := hsv.left
              have hse := (hsv.right (v := (e, p) :: v') rfl)
              have hie : i + 1 + a.length < L.length := by simp at hil; omega
              have hle : e = 93 ∨ e = 38 := by rcases hend with ⟨h, _⟩ | ⟨h, _⟩ <;> omega
              have ce := (H.out.cu.nw hk).bs _ _ hse.head
              simp only at ce
              have HTA : Hid (yTst t a) := hta
              have HSA1 : Hid (Sub L (i + 1) a) := hsa1
              have HSE : Hid (Sub L (i + 1 + a.length) ((e, p) :: v')) := hse
              have HEND : Hid ((e = 93 ∧ v' = [] ∧ ts = []) ∨ (e = 38 ∧ yTsts ts v')) := hend
              have HIL : Hid (i + 1 + (a ++ (e, p) :: v').length = hi) := hil
              have hlt : i < hi := by simp at hil; omega
              obtain ⟨j, hj⟩ : ∃ j, i + 1 + a.length = j := ⟨_, rfl⟩
              rw [hj] at ce hie
              have HJ : Hid (i + 1 + a.length = j) := hj
              clear hsv hta hsa1 hse hend hil hsa hk hown hv hj
              go_wp2
              go_loopg [9] a.length (fun m v9 wr' => ∃ k : Nat, v9 = .int .i64 ((i + 1 + k : Nat) : Int) ∧ m = a.length - k ∧ k ≤ a.length ∧ wr' = wr)
              case atStart => exact ⟨0, by simp, rfl, by omega, rfl⟩
              case round =>
                obtain ⟨k, rfl, hm2, hk2, hwr⟩ := hrel
                have hwr2 := hwr.symm
                subst hwr2
                clear hwr
                by_cases hka : k < a.length
                · obtain ⟨x, hx⟩ : ∃ x, a[k]? = some x := ⟨a[k], by simp [hka]⟩
                  have hLx := HSA1.out k x hx
                  have cx := (H.out.cu.nw K3.out).bs _ _ hLx
                  have hlx := (List.getElem?_eq_some_iff.1 hLx).1
                  have hnb := yTst_noB HTA.out x (List.mem_of_getElem? hx)
                  have b1 : (x.1 == 38) = false := by simp; exact hnb.1
                  have b2 : (x.1 == 93) = false := by simp; exact hnb.2.2.2.2.1
                  have b3 : (x.1 != 38) = true := by simp; exact hnb.1
                  have b4 : (x.1 != 93) = true := by simp; exact hnb.2.2.2.2.1
                  simp only at cx
                  generalize x.1 = xc at *
                  clear hx hLx hnb
                  go_wp2
                  go_roundg (a.length - (k + 1))
                  case measure => omega
                  case rel => exact ⟨k + 1, by push_cast; simp; omega, rfl, by omega, rfl⟩
                · have hkj : i + 1 + k = j := by have := HJ.out; omega
                  rw [hkj]
                  clear hm2 hk2 hka hkj
                  rcases hle with rfl | rfl
                  · go_wp2_with fail
                    refine (testC_at ⟨C, gs, cs, ga, ca, T⟩ L (i + 1) j t a wr (H.out.cu.nw K3.out) HTA.out HSA1.out HJ.out.symm (by push_cast; rfl) rfl).mono ?_
                    rintro e' w3 ⟨rfl, k3⟩
                    simp only [tsV]
                    have SA4 : Hid (SA w3 w.heap.size kind name pos tv) := SA3.out.kp k3 (fun h => h)
                    have O4 : Hid (w3.ownsRow (w.heap.size + 1) 38 11 tv dn.length (tssC dn)) := owns_kp O3.out k3 (fun _ _ h => h)
                    have K4 : Hid (Nw w w3) := K3.out.trans k3
                    have q3 := SA4.out.c3
                    have qz := SA4.out.fz
                    have ql := SA4.out.lt
                    have qn1 : ¬ w.heap.size = w3.heap.size := by omega
                    have qn2 : ¬ w3.heap.size = w.heap.size := by omega
                    have qn3 : ¬ w.heap.size = w3.heap.size + 1 := by omega
                    clear k3 f0 ce SA3 O3 K3 HTA HSA1
                    go_wp2_with (at_builtin; refine wpList_append_lies _ rfl _ _ 143 rfl (w.heap.size + 1) 38 it (.agg #[.int .i64 0, .int .i64 0, .int .i64 0, .int .i64 0, .int .i64 0, .int .i64 0, .int .i64 0, .int .i64 0, .int .i64 0, .int .i64 0, .int .i64 0]) 11 88 Tryz.underlying143 hit ht0 ht1 ht2 rfl (by decide) _ _ _ rfl ((O4.out.alloc _).alloc _) ⟨w3.heap.size + 1, 0, none⟩ 1 1 (tsC t) rfl rfl ?ap1 ?ap2 (by decide) ?ap3 ?ap4 ?ap5 _ rfl ?_)
                    case ap1 => exact news_snd w3 _ _ _
                    case ap2 => exact oneCellsT t
                    case ap3 => unfold maxLen; omega
                    case ap4 => omega
                    case ap5 => simp; omega
                    intro g cap w5 hown5 hgrow hat hgl
                    have O5 : Hid (w5.ownsRow (w.heap.size + 1) 38 11 (.slice (some ⟨g, 0, none⟩) (dn.length + 1) cap) (dn ++ [t]).length (tssC (dn ++ [t]))) := by
                      have e1 : (dn ++ [t]).length = dn.length + 1 := by simp
                      show w5.ownsRow _ _ _ _ _ _
                      rw [e1, tssC_snoc]
                      exact hown5
                    have kg : Kp (fun b => tv.ownBlock = some b) w3 w5 := (((Kp.refl _ w3).alloc _).alloc _).grown hgrow (fun b hb => Or.inr hb)
                    have hge : ∀ b, tv.ownBlock = some b → w.heap.size + 1 ≤ b := fun b hb => (own_ge' O4.out hb).1
                    have K5 : Hid (Nw w w5) := Kp.trans' K4.out kg (fun b hb h => by have := hge b h; omega)
                    have SA5 : Hid (SA w5 w.heap.size kind name pos tv) := SA4.out.kp kg (fun h => by have := hge _ h; omega)
                    have r3 := SA5.out.c3
                    have rz := SA5.out.fz
                    have rl5 := SA5.out.lt
                    have f0 := (H.out.cu.nw K5.out).c0
                    have ce := (H.out.cu.nw K5.out).bs _ _ (HJ.out ▸ HSE.out.head)
                    simp only at f0 ce
                    have HWW : Hid (∀ v, Nw w (w5.setCell ⟨w.heap.size, 3, none⟩ v)) := fun v => K5.out.setCell (p := ⟨w.heap.size, 3, none⟩) (Or.inl (Nat.le_refl _)) v
                    have HSS : Hid (∀ v, SA (w5.setCell ⟨w.heap.size, 3, none⟩ v) w.heap.size kind name pos v) := by
                      intro v
                      obtain ⟨y0, y1, y2, y3, y4, y5⟩ := SA5.out
                      constructor <;> simp [go_sem, y0, y1, y2, y3, y4, y5]
                    have HOO : Hid (∀ v, (w5.setCell ⟨w.heap.size, 3, none⟩ v).ownsRow (w.heap.size + 1) 38 11 (.slice (some ⟨g, 0, none⟩) (dn.length + 1) cap) (dn ++ [t]).length (tssC (dn ++ [t]))) := fun v => ownsRow_setCell_below O5.out (a := ⟨w.heap.size, 3, none⟩) (by simp) v
                    have hsT := HSE.out
                    have hil := HIL.out
                    have hjj := HJ.out
                    rw [hjj] at hsT
                    simp only [List.length_append, List.length_cons] at hil
                    have hts : ts = [] := by have := HEND.out; simp at this; exact this.2
                    have HTT2 : Hid (tests = (dn ++ [t]) ++ ts) := by show _ = _; rw [HTT.out]; simp
                    have HTS : Hid (ts = []) := hts
                    clear hown5 hgrow hat kg hge hsT hil hts SA4 O4 K4 SA5 O5 K5 HSE HEND HIL HJ HTT hjj q3 qz ql qn1 qn2 qn3
                    go_wp2
                    go_roundg ts.length
                    case measure => have := HMM2.out; omega
                    case rel => exact ⟨hi, _, ts, .slice (some ⟨g, 0, none⟩) (dn.length + 1) cap, rfl, rfl, HTT2.out, Or.inl ⟨HTS.out, rfl⟩, HSS.out _, HOO.out _, HWW.out _⟩
                  · go_wp2_with fail
                    refine (testC_at ⟨C, gs, cs, ga, ca, T⟩ L (i + 1) j t a wr (H.out.cu.nw K3.out) HTA.out HSA1.out HJ.out.symm (by push_cast; rfl) rfl).mono ?_
                    rintro e' w3 ⟨rfl, k3⟩
                    simp only [tsV]
                    have SA4 : Hid (SA w3 w.heap.size kind name pos tv) := SA3.out.kp k3 (fun h => h)
                    have O4 : Hid (w3.ownsRow (w.heap.size + 1) 38 11 tv dn.length (tssC dn)) := owns_kp O3.out k3 (fun _ _ h => h)
                    have K4 : Hid (Nw w w3) := K3.out.trans k3
                    have q3 := SA4.out.c3
                    have qz := SA4.out.fz
                    have ql := SA4.out.lt
                    have qn1 : ¬ w.heap.size = w3.heap.size := by omega
                    have qn2 : ¬ w3.heap.size = w.heap.size := by omega
                    have qn3 : ¬ w.heap.size = w3.heap.size + 1 := by omega
                    clear k3 f0 ce SA3 O3 K3 HTA HSA1
                    go_wp2_with (at_builtin; refine wpList_append_lies _ rfl _ _ 143 rfl (w.heap.size + 1) 38 it (.agg #[.int .i64 0, .int .i64 0, .int .i64 0, .int .i64 0, .int .i64 0, .int .i64 0, .int .i64 0, .int .i64 0, .int .i64 0, .int .i64 0, .int .i64 0]) 11 88 Tryz.underlying143 hit ht0 ht1 ht2 rfl (by decide) _ _ _ rfl ((O4.out.alloc _).alloc _) ⟨w3.heap.size + 1, 0, none⟩ 1 1 (tsC t) rfl rfl ?aq1 ?aq2 (by decide) ?aq3 ?aq4 ?aq5 _ rfl ?_)
                    case aq1 => exact news_snd w3 _ _ _
                    case aq2 => exact oneCellsT t
                    case aq3 => unfold maxLen; omega
                    case aq4 => omega
                    case aq5 => simp; omega
                    intro g cap w5 hown5 hgrow hat hgl
                    have O5 : Hid (w5.ownsRow (w.heap.size + 1) 38 11 (.slice (some ⟨g, 0, none⟩) (dn.length + 1) cap) (dn ++ [t]).length (tssC (dn ++ [t]))) := by
                      have e1 : (dn ++ [t]).length = dn.length + 1 := by simp
                      show w5.ownsRow _ _ _ _ _ _
                      rw [e1, tssC_snoc]
                      exact hown5
                    have kg : Kp (fun b => tv.ownBlock = some b) w3 w5 := (((Kp.refl _ w3).alloc _).alloc _).grown hgrow (fun b hb => Or.inr hb)
                    have hge : ∀ b, tv.ownBlock = some b → w.heap.size + 1 ≤ b := fun b hb => (own_ge' O4.out hb).1
                    have K5 : Hid (Nw w w5) := Kp.trans' K4.out kg (fun b hb h => by have := hge b h; omega)
                    have SA5 : Hid (SA w5 w.heap.size kind name pos tv) := SA4.out.kp kg (fun h => by have := hge _ h; omega)
                    have r3 := SA5.out.c3
                    have rz := SA5.out.fz
                    have rl5 := SA5.out.lt
                    have f0 := (H.out.cu.nw K5.out).c0
                    have ce := (H.out.cu.nw K5.out).bs _ _ (HJ.out ▸ HSE.out.head)
                    simp only at f0 ce
                    have HWW : Hid (∀ v, Nw w (w5.setCell ⟨w.heap.size, 3, none⟩ v)) := fun v => K5.out.setCell (p := ⟨w.heap.size, 3, none⟩) (Or.inl (Nat.le_refl _)) v
                    have HSS : Hid (∀ v, SA (w5.setCell ⟨w.heap.size, 3, none⟩ v) w.heap.size kind name pos v) := by
                      intro v
                      obtain ⟨y0, y1, y2, y3, y4, y5⟩ := SA5.out
                      constructor <;> simp [go_sem, y0, y1, y2, y3, y4, y5]
                    have HOO : Hid (∀ v, (w5.setCell ⟨w.heap.size, 3, none⟩ v).ownsRow (w.heap.size + 1) 38 11 (.slice (some ⟨g, 0, none⟩) (dn.length + 1) cap) (dn ++ [t]).length (tssC (dn ++ [t]))) := fun v => ownsRow_setCell_below O5.out (a := ⟨w.heap.size, 3, none⟩) (by simp) v
                    have hsT := HSE.out
                    have hil := HIL.out
                    have hjj := HJ.out
                    rw [hjj] at hsT
                    simp only [List.length_append, List.length_cons] at hil
                    have hnx : ∃ v, yTsts ts v ∧ Sub L (j + 1) v ∧ j + 1 + v.length = hi := ⟨v', by have := HEND.out; simp at this; exact this, hsT.tail, by omega⟩
                    have HTT2 : Hid (tests = (dn ++ [t]) ++ ts) := by show _ = _; rw [HTT.out]; simp
                    have HNX : Hid (∃ v, yTsts ts v ∧ Sub L (j + 1) v ∧ j + 1 + v.length = hi) := hnx
                    clear hown5 hgrow hat kg hge hsT hil hnx SA4 O4 K4 SA5 O5 K5 HSE HEND HIL HJ HTT hjj q3 qz ql qn1 qn2 qn3
                    go_wp2
                    go_roundg ts.length
                    case measure => have := HMM2.out; omega
                    case rel => exact ⟨j, _, ts, .slice (some ⟨g, 0, none⟩) (dn.length + 1) cap, rfl, rfl, HTT2.out, Or.inr HNX.out, HSS.out _, HOO.out _, HWW.out _⟩
end Go.Proofs.YtcboiapggnmpfaaGreat
