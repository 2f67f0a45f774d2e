/- Walks: spotterref: a step's block. -/
import Derived.Test.YtcboiapggnmpfaaGreatQj
import Derived.Test.YtcboiapggnmpfaaGreatHd
namespace Go.Proofs.YtcboiapggnmpfaaGreat
open Go.RowKit
set_option linter.unusedSimpArgs false
set_option linter.unusedVariables false

def BlockPost (w : World) (N : Nat) (e : Ending) (w' : World) : Prop := ∃ (v : Value) (l : List In), e = .returned v ∧ w'.ownsRow w.heap.size 40 14 v l.length (codeC l) ∧ l.length ≤ N ∧ 0 < l.length ∧ Nw w w'
/-- The block while it is made; the names' row nv lies beside it. -/
structure Blk (w wr : World) (v : Value) (l : List In) (N : Nat) (nv : Value) (nl : List Int) (tv : Value) (nm : Int) : Prop where
  own : wr.ownsRow (w.heap.size + 1) 40 14 v l.length (codeC l)
  len : l.length ≤ N
  pos : 0 < l.length
  nam : wr.ownsRow (w.heap.size + 1) 3 1 nv nl.length (nl.map (Value.int .i64))
  c1 : wr.cell? ⟨w.heap.size, 1, none⟩ = some (.int .i64 nm)
  c3 : wr.cell? ⟨w.heap.size, 3, none⟩ = some tv
  lt : w.heap.size < wr.heap.size
  nw : Nw w wr
theorem Blk.next {w wr w' : World} {v : Value} {l : List In} {N : Nat} {nv : Value} {nl : List Int} {tv : Value} {nm : Int} (h : Blk w wr v l N nv nl tv nm) (k : Nw wr w') : Blk w w' v l N nv nl tv nm :=
  ⟨owns_kp h.own k (fun _ _ h => h), h.len, h.pos, owns_kp h.nam k (fun _ _ h => h), (k.cell (p := ⟨w.heap.size, 1, none⟩) h.lt (fun h => h)).trans h.c1, (k.cell (p := ⟨w.heap.size, 3, none⟩) h.lt (fun h => h)).trans h.c3, Nat.lt_of_lt_of_le h.lt k.size, h.nw.trans k⟩
theorem Blk.mono {w wr : World} {v : Value} {l : List In} {N N' : Nat} {nv : Value} {nl : List Int} {tv : Value} {nm : Int} (h : Blk w wr v l N nv nl tv nm) (hN : N ≤ N') : Blk w wr v l N' nv nl tv nm := ⟨h.own, Nat.le_trans h.len hN, h.pos, h.nam, h.c1, h.c3, h.lt, h.nw⟩
/-- Behind an append (W: the world at it, in which the row is as it was). -/
theorem Blk.more {w wr w' : World} {v v' : Value} {l : List In} {N : Nat} {nv : Value} {nl : List Int} {tv : Value} {nm : Int} {x : In} (h : Blk w wr v l N nv nl tv nm) (hg : wr.grownBy w' v.ownBlock) (ho : w'.ownsRow (w.heap.size + 1) 40 14 v' (l.length + 1) (codeC l ++ insC x)) : Blk w w' v' (l ++ [x]) (N + 1) nv nl tv nm := by
  have hge : ∀ b, v.ownBlock = some b → w.heap.size + 1 ≤ b := fun b hb => (h.own.lt b hb).1
  have hlen := h.len
  have K : Kp (fun b => b = w.heap.size + 0 ∧ False ∨ v.ownBlock = some b) wr w' := (Kp.refl _ wr).grown hg (fun b hb => Or.inr (Or.inr hb))
  have hS : ¬ (w.heap.size = w.heap.size + 0 ∧ False ∨ v.ownBlock = some w.heap.size) := by
    rintro (⟨_, e⟩ | e)
    · exact e
    · have := hge _ e; omega
  have hap : ∀ g, nv.ownBlock = some g → ¬ (g = w.heap.size + 0 ∧ False ∨ v.ownBlock = some g) := by
    rintro g hg1 (⟨_, e⟩ | e)
    · exact e
    · rcases h.nam.2 with ⟨rfl, _⟩ | ⟨g', cap, cur, rfl, hb, h3, _⟩
      · simp [Value.ownBlock] at hg1
      · rcases h.own.2 with ⟨rfl, _⟩ | ⟨g2, cap2, cur2, rfl, _, hg2, _⟩
        · simp [Value.ownBlock] at e
        · simp only [Value.ownBlock, Option.some.injEq] at e hg1
          subst e
          subst hg1
          rw [h3] at hg2
          simp only [Option.some.injEq, Obj.cells.injEq] at hg2
          exact absurd hg2.2.1 (by decide)
  refine ⟨?_, by simp; omega, by simp, owns_kp h.nam K hap, (K.cell (p := ⟨w.heap.size, 1, none⟩) h.lt hS).trans h.c1, (K.cell (p := ⟨w.heap.size, 3, none⟩) h.lt hS).trans h.c3, Nat.lt_of_lt_of_le h.lt K.size, ?_⟩
  · have e1 : (l ++ [x]).length = l.length + 1 := by simp
    rw [e1, codeC_snoc]; exact ho
  · refine Kp.trans' h.nw K ?_
    rintro b hb (⟨_, e⟩ | e)
    · exact e
    · have := hge b e; omega
set_option maxRecDepth 100000 in
set_option maxHeartbeats 4000000 in
theorem block_any (Q : TP) (ps : List Pt) (ss : List (St × Value)) (root win : Int) (w : World) (h : TreeF w Q ps ss root win) (k n : Int) (p : Nat) (tp : Option Addr) (tc : Nat) (tests : List Tst) (hto : w.ownsRow 0 38 11 (.slice tp tests.length tc) tests.length (tssC tests)) (htl : tests.length ≤ 1000) (hsl : (slotsTo ss ss.length).length ≤ 1000) :
    Calls Tryz.prog 93 #[.pointer (some ⟨Q.T, 0, none⟩), .agg #[.int .i64 k, .int .i64 n, .int .i64 p, .slice tp tests.length tc]] w (BlockPost w (2 + tests.length + (slotsTo ss ss.length).length)) := by
  have H : Hid (TreeF w Q ps ss root win) := h
  have HTO : Hid (w.ownsRow 0 38 11 (.slice tp tests.length tc) tests.length (tssC tests)) := hto
  have hT := h.r.ltT
  have HS : Hid (∀ ob, Calls Tryz.prog 111 #[.pointer (some ⟨Q.T, 0, none⟩)] (w.alloc ob) (SlotsPost (w.alloc ob) (slotsTo ss ss.length))) := fun ob => slots_any Q ps ss root win _ (h.r.nw ((Kp.refl _ w).alloc ob))
  generalize slotsTo ss ss.length = nl at *
  obtain ⟨i0, hi0, hz0, hz1, hz2⟩ := info_parts Tryz.info40
  clear h hto
  obtain ⟨T, gp, cp, gt, ct⟩ := Q
  simp only at hT
  go_enter Tryz.func93, Tryz.ntmps93
  go_wp2_with fail
  refine (HS.out _).mono ?_
  rintro e w1 ⟨nv, rfl, ho1, k1⟩
  have hsz1 := k1.size
  have hb1 : (w.alloc (.cells #[.int .i64 k, .int .i64 n, .int .i64 p, .slice tp tests.length tc] 173)).heap.size = w.heap.size + 1 := by simp
  obtain ⟨kk, hl1, ⟨kc, kz⟩⟩ := k1.box (fun h => h)
  have m0 : w1.cell? ⟨w.heap.size, 0, none⟩ = some (.int .i64 k) := by rw [kc]; simp [go_sem]
  have m1 : w1.cell? ⟨w.heap.size, 1, none⟩ = some (.int .i64 n) := by rw [kc]; simp [go_sem]
  have m3 : w1.cell? ⟨w.heap.size, 3, none⟩ = some (.slice tp tests.length tc) := by rw [kc]; simp [go_sem]
  have HK1 : Hid (Nw w w1) := kk
  rw [hb1] at ho1
  have HB1 : Hid (Blk w (w1.alloc (.cells #[.int .i64 0, .int .i64 k, .int .i64 0, .int .i64 0, .int .i64 0, .int .i64 0, .int .i64 0, .int .i64 0, .int .i64 0, .int .i64 0, .int .i64 0, .int .i64 0, .int .i64 0, .int .i64 0] 40)) (.slice (some ⟨w1.heap.size, 0, none⟩) 1 1) [⟨0, k, 0, tst0⟩] 1 nv nl (.slice tp tests.length tc) n) := by
    have kk2 : Nw w1 (w1.alloc (.cells #[.int .i64 0, .int .i64 k, .int .i64 0, .int .i64 0, .int .i64 0, .int .i64 0, .int .i64 0, .int .i64 0, .int .i64 0, .int .i64 0, .int .i64 0, .int .i64 0, .int .i64 0, .int .i64 0] 40)) := (Kp.refl _ _).alloc _
    refine ⟨?_, by simp, by simp, owns_kp ho1 kk2 (fun _ _ h => h), (kk2.cell (p := ⟨w.heap.size, 1, none⟩) hl1 (fun h => h)).trans m1, (kk2.cell (p := ⟨w.heap.size, 3, none⟩) hl1 (fun h => h)).trans m3, Nat.lt_of_lt_of_le hl1 kk2.size, kk.trans kk2⟩
    exact owns_new w1 (by omega) 40 #[.int .i64 0, .int .i64 k, .int .i64 0, .int .i64 0, .int .i64 0, .int .i64 0, .int .i64 0, .int .i64 0, .int .i64 0, .int .i64 0, .int .i64 0, .int .i64 0, .int .i64 0, .int .i64 0] 1 14 rfl (by unfold maxLen; omega)
  obtain ⟨np, nc, hnv⟩ := owns_lenL ho1
  subst hnv
  have hq1 : ¬ w.heap.size = w1.heap.size := by omega
  have c3 := (H.out.nw HB1.out.nw).r.c3
  simp only at c3
  clear kc kz kk k1 ho1 hb1 hsz1
  go_upto_if 20 with fail
  go_cut [6] (fun v wr => ∃ l, Blk w wr v l 2 (.slice np nl.length nc) nl (.slice tp tests.length tc) n)
  case first =>
    by_cases hw : 0 ≤ win
    · go_wp2_with (at_builtin; refine wpList_append_lies _ rfl _ _ 28 rfl (w.heap.size + 1) 40 i0 (.agg #[.int .i64 0, .int .i64 0, .int .i64 0, .int .i64 0, .int .i64 0, .int .i64 0, .int .i64 0, .int .i64 0, .int .i64 0, .int .i64 0, .int .i64 0, .int .i64 0, .int .i64 0, .int .i64 0]) 14 112 Tryz.underlying28 hi0 hz0 hz1 hz2 rfl (by decide) _ _ _ rfl (HB1.out.own.alloc _) ⟨w1.heap.size + 1, 0, none⟩ 1 1 (insC ⟨1, win, 0, tst0⟩) rfl rfl (news_snd w1 _ _ _) (oneCellsI _) (by decide) (by unfold maxLen; simp) (by simp) (by simp; omega) _ rfl ?_)
      intro g3 cap3 w3 hown3 hgrow3 hat3 hlt3
      have B3 : Hid (Blk w w3 (.slice (some ⟨g3, 0, none⟩) (1 + 1) cap3) ([⟨0, k, 0, tst0⟩] ++ [⟨1, win, 0, tst0⟩]) 2 (.slice np nl.length nc) nl (.slice tp tests.length tc) n) := (HB1.out.next ((Kp.refl _ _).alloc _)).more hgrow3 hown3
      clear hown3 hgrow3 hat3
      go_wp2
      go_meet
      case rel => exact ⟨_, B3.out⟩
    · have hw' : decide (0 ≤ win) = false := by simp; omega
      go_wp2
      go_meet
      case rel => exact ⟨_, HB1.out.mono (by omega)⟩
  case rest =>
    obtain ⟨l2, hB2⟩ := hcut
    have B2 : Hid (Blk w wc u6 l2 2 (.slice np nl.length nc) nl (.slice tp tests.length tc) n) := hB2
    clear hB2 HB1 c3 m0 m1 m3
    go_wp2
    go_loopg [6, 7] tests.length (fun m v6 v7 wr => ∃ (i : Nat) (l : List In), v7 = .int .i64 i ∧ m = tests.length - i ∧ i ≤ tests.length ∧ Blk w wr v6 l (2 + i) (.slice np nl.length nc) nl (.slice tp tests.length tc) n)
    case atStart => exact ⟨0, l2, rfl, rfl, by omega, B2.out⟩
    case round =>
      obtain ⟨i, l, rfl, hm, hi, hB⟩ := hrel
      have B3 : Hid (Blk w wr u6 l (2 + i) (.slice np nl.length nc) nl (.slice tp tests.length tc) n) := hB
      have d3 := hB.c3
      have hlt := hB.lt
      have hlen := hB.len
      clear hB B2
      by_cases hi' : i < tests.length
      · obtain ⟨t, hti⟩ : ∃ t, tests[i]? = some t := ⟨tests[i], by simp [hi']⟩
        obtain ⟨g, c, hsl2, _, hgl⟩ := HTO.out.form (by omega)
        simp only [Value.slice.injEq, true_and] at hsl2
        obtain ⟨rfl, rfl⟩ := hsl2
        have hta : TstAt wr g (i * 11) t := tstAt (owns_kp HTO.out B3.out.nw (fun _ _ h => h)) hti
        obtain ⟨⟨t0, t1, t2⟩, t3, ⟨t4, t5, t6⟩, t7, ⟨t8, t9, t10⟩⟩ := t
        obtain ⟨a0, a1, a2, a3, a4, a5, a6, a7, a8, a9, a10⟩ := hta
        simp only at a0 a1 a2 a3 a4 a5 a6 a7 a8 a9 a10
        have HSE : Hid (Calls Tryz.prog 147 #[.slice np nl.length nc, .agg #[.int .i64 t0, .int .i64 t1, .int .i64 t2, .int .i64 t3, .int .i64 t4, .int .i64 t5, .int .i64 t6, .int .i64 t7, .int .i64 t8, .int .i64 t9, .int .i64 t10]] wr (SettledPost wr)) := settled_any (.slice np nl.length nc) nl t0 t1 t2 t3 t4 t5 t6 t7 t8 t9 t10 wr (IntsR.of B3.out.nam) (by omega)
        clear hti
        go_wp2_with fail
        refine HSE.out.mono ?_
        rintro e w2 ⟨s0, s1, s2, s3, s4, s5, s6, s7, s8, s9, s10, rfl, k2⟩
        have hc11 : (c11 s0 s1 s2 s3 s4 s5 s6 s7 s8 s9 s10).toArray = #[.int .i64 s0, .int .i64 s1, .int .i64 s2, .int .i64 s3, .int .i64 s4, .int .i64 s5, .int .i64 s6, .int .i64 s7, .int .i64 s8, .int .i64 s9, .int .i64 s10] := rfl
        rw [hc11]
        have B4 : Hid (Blk w w2 u6 l (2 + i) (.slice np nl.length nc) nl (.slice (some ⟨g, 0, none⟩) tests.length tc) n) := B3.out.next k2
        have hl2 : w.heap.size < w2.heap.size := Nat.lt_of_lt_of_le hlt k2.size
        clear a0 a1 a2 a3 a4 a5 a6 a7 a8 a9 a10 k2 hc11 HSE B3 d3
        go_wp2_with (at_builtin; refine wpList_append_lies _ rfl _ _ 28 rfl (w.heap.size + 1) 40 i0 (.agg #[.int .i64 0, .int .i64 0, .int .i64 0, .int .i64 0, .int .i64 0, .int .i64 0, .int .i64 0, .int .i64 0, .int .i64 0, .int .i64 0, .int .i64 0, .int .i64 0, .int .i64 0, .int .i64 0]) 14 112 Tryz.underlying28 hi0 hz0 hz1 hz2 rfl (by decide) _ _ _ rfl ((B4.out.own.alloc _).alloc _) ⟨w2.heap.size + 1, 0, none⟩ 1 1 (insC ⟨2, 0, 0, ⟨⟨s0, s1, s2⟩, s3, ⟨s4, s5, s6⟩, s7, ⟨s8, s9, s10⟩⟩⟩) rfl rfl (news_snd w2 _ _ _) (oneCellsI _) (by decide) (by unfold maxLen; omega) (by omega) (by simp; omega) _ rfl ?_)
        intro g3 cap3 w3 hown3 hgrow3 hat3 hlt3
        have B5 : Hid (Blk w w3 (.slice (some ⟨g3, 0, none⟩) (l.length + 1) cap3) (l ++ [⟨2, 0, 0, ⟨⟨s0, s1, s2⟩, s3, ⟨s4, s5, s6⟩, s7, ⟨s8, s9, s10⟩⟩⟩]) (2 + i + 1) (.slice np nl.length nc) nl (.slice (some ⟨g, 0, none⟩) tests.length tc) n) := (B4.out.next (((Kp.refl _ _).alloc _).alloc _)).more hgrow3 hown3
        clear hown3 hgrow3 hat3 B4
        go_wp2
        go_roundg (tests.length - (i + 1))
        case measure => omega
        case rel => exact ⟨i + 1, _, by simp, rfl, by omega, B5.out⟩
      · have ei : i = tests.length := by omega
        have B6 : Hid (Blk w wr u6 l (2 + tests.length) (.slice np nl.length nc) nl (.slice tp tests.length tc) n) := by have := B3.out; rw [ei] at this; exact this
        clear ei B3
        go_wp2
        go_loopg [6, 9] nl.length (fun m v6 v9 wr => ∃ (j : Nat) (l : List In), v9 = .int .i64 j ∧ m = nl.length - j ∧ j ≤ nl.length ∧ Blk w wr v6 l (2 + tests.length + j) (.slice np nl.length nc) nl (.slice tp tests.length tc) n)
        case atStart => exact ⟨0, l, rfl, rfl, by omega, B6.out⟩
        case round =>
          obtain ⟨j, l5, rfl, hm5, hj, hB5⟩ := hrel
          have B7 : Hid (Blk w wr u6 l5 (2 + tests.length + j) (.slice np nl.length nc) nl (.slice tp tests.length tc) n) := hB5
          have d1 := hB5.c1
          have hlt5 := hB5.lt
          have hlen5 := hB5.len
          clear hB5 B6 d3
          by_cases hj' : j < nl.length
          · obtain ⟨x, hx⟩ : ∃ x, nl[j]? = some x := ⟨nl[j], by simp [hj']⟩
            obtain ⟨g, c', e', hg, d0⟩ := (IntsR.of B7.out.nam).cell j x hx
            simp only [Value.slice.injEq, true_and] at e'
            obtain ⟨rfl, rfl⟩ := e'
            have hjj : (j : Int) < nl.length := by omega
            clear hx
            by_cases hxe : x = n
            · have hxe' : (x == n) = true := by simp [hxe]
              have B8 : Hid (∀ q, Blk w (wr.drewN q) u6 l5 (2 + tests.length + j) (.slice (some ⟨g, 0, none⟩) nl.length nc) nl (.slice tp tests.length tc) n) := fun q => B7.out.next ((Kp.refl _ _).drewN q)
              clear hxe B7
              go_wp2
              go_quiet (fail)
              go_wp2_with (at_builtin; refine wpList_append_lies _ rfl _ _ 28 rfl (w.heap.size + 1) 40 i0 (.agg #[.int .i64 0, .int .i64 0, .int .i64 0, .int .i64 0, .int .i64 0, .int .i64 0, .int .i64 0, .int .i64 0, .int .i64 0, .int .i64 0, .int .i64 0, .int .i64 0, .int .i64 0, .int .i64 0]) 14 112 Tryz.underlying28 hi0 hz0 hz1 hz2 rfl (by decide) _ _ _ rfl ((B8.out _).own.alloc _) ⟨wr.heap.size, 0, none⟩ 1 1 (insC ⟨3, (j : Int), 0, tst0⟩) rfl rfl (news_one _ rfl _ _) (oneCellsI _) (by decide) (by unfold maxLen; omega) (by omega) (by simp; omega) _ rfl ?_)
              intro g3 cap3 w3 hown3 hgrow3 hat3 hlt3
              have B9 : Hid (Blk w w3 (.slice (some ⟨g3, 0, none⟩) (l5.length + 1) cap3) (l5 ++ [⟨3, (j : Int), 0, tst0⟩]) (2 + tests.length + j + 1) (.slice (some ⟨g, 0, none⟩) nl.length nc) nl (.slice tp tests.length tc) n) := ((B8.out _).next ((Kp.refl _ _).alloc _)).more hgrow3 hown3
              clear hown3 hgrow3 hat3 B8
              go_wp2
              go_roundg (nl.length - (j + 1))
              case measure => omega
              case rel => exact ⟨j + 1, _, by simp, rfl, by omega, B9.out⟩
            · have hxe' : (x == n) = false := by simp [hxe]
              have B8 : Hid (∀ q, Blk w (wr.drewN q) u6 l5 (2 + tests.length + (j + 1)) (.slice (some ⟨g, 0, none⟩) nl.length nc) nl (.slice tp tests.length tc) n) := fun q => (B7.out.next ((Kp.refl _ _).drewN q)).mono (by omega)
              clear hxe B7
              go_wp2
              go_quiet (fail)
              go_wp2
              go_roundg (nl.length - (j + 1))
              case measure => omega
              case rel => exact ⟨j + 1, l5, by simp, rfl, by omega, B8.out _⟩
          · have ej : j = nl.length := by omega
            have B8 : Hid (Blk w wr u6 l5 (2 + tests.length + nl.length) (.slice np nl.length nc) nl (.slice tp tests.length tc) n) := by have := B7.out; rw [ej] at this; exact this
            clear ej B7
            go_wp2
            go_ret
            exact ⟨_, l5, rfl, owns_baseP B8.out.own (by omega), B8.out.len, B8.out.pos, B8.out.nw⟩
end Go.Proofs.YtcboiapggnmpfaaGreat
