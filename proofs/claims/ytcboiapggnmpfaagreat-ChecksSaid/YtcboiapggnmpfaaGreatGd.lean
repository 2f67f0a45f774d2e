/- Walks: spotterref: which points can be reached. -/
import Derived.Test.YtcboiapggnmpfaaGreatQe
import Derived.Deep.QuietTactic
import Derived.Deep.RegionWith
namespace Go.Proofs.YtcboiapggnmpfaaGreat
open Go.RowKit
set_option linter.unusedSimpArgs false
set_option linter.unusedVariables false

/-- May this edge be taken: one that takes no step; or, with steps, one whose step has not the barred name. -/
def okE (ss : List (St × Value)) (steps : Bool) (no : Int) (e : Ed) : Prop := e.st < 0 ∨ (steps = true ∧ (no < 0 ∨ ∀ x, ss[e.st.toNat]? = some x → ¬ x.1.name = no))
/-- What can be reached from src by such edges. -/
def Rc (ok : Ed → Prop) (es : List Ed) (src x : Nat) : Prop := ∀ S : Nat → Prop, S src → (∀ e ∈ es, ok e → S e.fr.toNat → S e.to.toNat) → S x
theorem Rc.more {ok : Ed → Prop} {es : List Ed} {src : Nat} {e : Ed} (h : Rc ok es src e.fr.toNat) (he : e ∈ es) (ho : ok e) : Rc ok es src e.to.toNat := fun S h1 h2 => h2 e he ho (h S h1 h2)
/-- Where the search stands: those of the first i edges lead to nothing new, if nothing new was found in this round. -/
structure Sk (ok : Ed → Prop) (es : List Ed) (n src : Nat) (bs : List Bool) : Prop where
  len : bs.length = n
  st : bs[src]? = some true
  sound : ∀ x, bs[x]? = some true → Rc ok es src x
def ShutTo (ok : Ed → Prop) (es : List Ed) (bs : List Bool) (i : Nat) : Prop := ∀ (j : Nat) e, j < i → es[j]? = some e → ok e → bs[e.fr.toNat]? = some true → bs[e.to.toNat]? = some true
theorem Sk.over {ok : Ed → Prop} {es : List Ed} {n src : Nat} {bs : List Bool} (h : Sk ok es n src bs) (hs : ShutTo ok es bs es.length) (x : Nat) : bs[x]? = some true ↔ Rc ok es src x := by
  refine ⟨h.sound x, fun hr => hr (fun y => bs[y]? = some true) h.st ?_⟩
  intro e he ho hf
  obtain ⟨j, hj⟩ := List.mem_iff_getElem?.1 he
  exact hs j e (List.getElem?_eq_some_iff.1 hj).1 hj ho hf
theorem Sk.set {ok : Ed → Prop} {es : List Ed} {n src : Nat} {bs : List Bool} {e : Ed} (h : Sk ok es n src bs) (he : e ∈ es) (ho : ok e) (hf : bs[e.fr.toNat]? = some true) (ht : e.to.toNat < n) : Sk ok es n src (bs.set e.to.toNat true) := by
  refine ⟨by simp [h.len], get_set_true h.st, ?_⟩
  intro x hx
  by_cases e1 : x = e.to.toNat
  · subst e1; exact (h.sound _ hf).more he ho
  · rw [List.getElem?_set_ne (by omega)] at hx; exact h.sound x hx
theorem ShutTo.next {ok : Ed → Prop} {es : List Ed} {bs : List Bool} {i : Nat} {e : Ed} (h : ShutTo ok es bs i) (he : es[i]? = some e) (h2 : ok e → bs[e.fr.toNat]? = some true → bs[e.to.toNat]? = some true) : ShutTo ok es bs (i + 1) := by
  intro j x hj hx ho hf
  by_cases e1 : j = i
  · subst e1; rw [he] at hx; cases hx; exact h2 ho hf
  · exact h j x (by omega) hx ho hf
/-- All that reach reads. -/
structure Rd4 (w wr : World) (G n : Nat) (ev sv : Value) (gi go : Int) (es : List Ed) (Q : TP) (ps : List Pt) (ss : List (St × Value)) (root win : Int) (bs : List Bool) : Prop where
  gr : Gr wr G n ev sv gi go
  ge : GE wr G ev es
  tr : TreeR wr Q ps ss root win
  row : Row wr w.heap.size 4 (bs.map Value.bool)
  nw : Nw w wr
theorem Rd4.next {w wr w' : World} {G n : Nat} {ev sv : Value} {gi go : Int} {es : List Ed} {Q : TP} {ps : List Pt} {ss : List (St × Value)} {root win : Int} {bs : List Bool} (h : Rd4 w wr G n ev sv gi go es Q ps ss root win bs) (k : Nw wr w') : Rd4 w w' G n ev sv gi go es Q ps ss root win bs :=
  ⟨h.gr.sm (k.sm h.gr.lt (fun h => h)), h.ge.nw k, h.tr.nw k, h.row.kp k (fun h => h), h.nw.trans k⟩
set_option maxRecDepth 100000 in
set_option maxHeartbeats 2000000 in
theorem reachG_any (G n : Nat) (ev sv : Value) (gi go : Int) (es : List Ed) (Q : TP) (ps : List Pt) (ss : List (St × Value)) (root win : Int) (src : Nat) (steps : Bool) (no : Int) (w : World)
    (hg : Gr w G n ev sv gi go) (he : GE w G ev es) (ht : TreeR w Q ps ss root win) (hn : n ≤ 1000000) (hs : src < n) (hb : ∀ e ∈ es, 0 ≤ e.fr ∧ e.fr < n ∧ 0 ≤ e.to ∧ e.to < n) (hst : steps = true → 0 ≤ no → ∀ e ∈ es, 0 ≤ e.st → e.st < ss.length) :
    Calls Tryz.prog 146 #[.pointer (some ⟨G, 0, none⟩), .pointer (some ⟨Q.T, 0, none⟩), .int .i64 src, .bool steps, .int .i64 no] w fun e w' =>
      ∃ bs : List Bool, e = .returned (.slice (some ⟨w.heap.size, 0, none⟩) n n) ∧ Row w' w.heap.size 4 (bs.map Value.bool) ∧ bs.length = n ∧ (∀ x : Nat, bs[x]? = some true ↔ Rc (okE ss steps no) es src x) ∧ Nw w w' := by
  obtain ⟨i0, hi0, hz0, hz1, hz2⟩ := info_parts Tryz.info4
  have c0 := hg.c0
  obtain ⟨p, c, rfl⟩ := he.len
  have H : Hid (Gr w G n (.slice p es.length c) sv gi go ∧ GE w G (.slice p es.length c) es ∧ TreeR w Q ps ss root win) := ⟨hg, he, ht⟩
  have hne := he.ne
  have hGl := he.lt
  clear hg he ht
  obtain ⟨T, gp, cp, gt, ct⟩ := Q
  go_enter Tryz.func146, Tryz.ntmps146
  go_wp2_with (first | (at_make; refine wpList_make_full _ rfl _ _ 187 rfl w.heap.size 4 i0 (.bool false) 1 Tryz.underlying187 hi0 hz0 hz1 _ _ _ _ n rfl rfl rfl rfl ?b1 ?b2 ?b3 ?_) | fail)
  case b1 => rw [hz2]; omega
  case b2 => unfold maxLen; omega
  case b3 => exact Nat.le_refl _
  intro w1 hown1 hgrow1
  have R1 : Hid (Row w1 w.heap.size 4 ((List.replicate n false).map Value.bool)) := by
    have := Row.of_full hown1
    rw [made_bools] at this
    exact this
  have K1 : Hid (Nw w w1) := (Kp.refl _ w).grown hgrow1 (by intro k hk; cases hk)
  have cb : w1.cell? ⟨w.heap.size, src, none⟩ = some (.bool false) := by rw [R1.out.cell]; simp [List.getElem?_replicate, hs]
  have fz1 : ∀ o, w1.frozen? ⟨w.heap.size, o, none⟩ = false := R1.out.froz
  clear hown1 hgrow1 c0
  go_wp2
  go_loopg [12] (2 * ((List.replicate n false).set src true).count false + 1) (fun m v12 wr => ∃ (bs : List Bool) (more : Bool), v12 = .bool more ∧ m = 2 * bs.count false + (if more = true then 1 else 0) ∧ Sk (okE ss steps no) es n src bs ∧ (more = false → ShutTo (okE ss steps no) es bs es.length) ∧ Rd4 w wr G n (.slice p es.length c) sv gi go es ⟨T, gp, cp, gt, ct⟩ ps ss root win bs)
  case atStart =>
    have kk : Nw w1 (w1.setCell ⟨w.heap.size, src, none⟩ (.bool true)) ∨ True := Or.inr trivial
    have ks : Kp (fun b => b = w.heap.size) w1 (w1.setCell ⟨w.heap.size, src, none⟩ (.bool true)) := (Kp.refl (fun b => b = w.heap.size) w1).setCell (p := ⟨w.heap.size, src, none⟩) (Or.inr rfl) _
    obtain ⟨hg, he, ht⟩ := H.out
    have k2 : Nw w (w1.setCell ⟨w.heap.size, src, none⟩ (.bool true)) := K1.out.setCell (p := ⟨w.heap.size, src, none⟩) (Or.inl (Nat.le_refl _)) _
    refine ⟨(List.replicate n false).set src true, true, rfl, by simp, ⟨by simp, ?_, ?_⟩, (fun h => by cases h), ⟨hg.sm (k2.sm hg.lt (fun h => h)), he.nw k2, ht.nw k2, ?_, k2⟩⟩
    · rw [List.getElem?_set_self (by simpa using hs)]
    · intro x hx
      by_cases e1 : x = src
      · subst e1; exact fun S h1 _ => h1
      · rw [List.getElem?_set_ne (by omega)] at hx; simp [List.getElem?_replicate] at hx
    · rw [List.map_set]; exact R1.out.set src (.bool true)
  case round =>
    obtain ⟨bs, more, rfl, hm, hS, hsh, hR⟩ := hrel
    have HM : Hid (gk = 2 * bs.count false + (if more = true then 1 else 0)) := hm
    have HS : Hid (Sk (okE ss steps no) es n src bs) := hS
    have HR : Hid (Rd4 w wr G n (.slice p es.length c) sv gi go es ⟨T, gp, cp, gt, ct⟩ ps ss root win bs) := hR
    have HSH : Hid (more = false → ShutTo (okE ss steps no) es bs es.length) := hsh
    clear hm hS hR hsh cb fz1 R1 K1
    cases more with
    | false =>
      go_wp2
      go_ret
      exact ⟨rfl, bs, HR.out.row, HS.out.len, HS.out.over (HSH.out (by simp)), HR.out.nw⟩
    | true =>
      go_wp2
      go_loopg [12, 13] es.length (fun m v12 v13 wr => ∃ (bs2 : List Bool) (mo : Bool) (i : Nat), v12 = .bool mo ∧ v13 = .int .i64 i ∧ m = es.length - i ∧ i ≤ es.length ∧ Sk (okE ss steps no) es n src bs2 ∧ (mo = false → bs2 = bs ∧ ShutTo (okE ss steps no) es bs2 i) ∧ (mo = true → bs2.count false < bs.count false) ∧ bs2.count false ≤ bs.count false ∧ Rd4 w wr G n (.slice p es.length c) sv gi go es ⟨T, gp, cp, gt, ct⟩ ps ss root win bs2)
      case atStart => exact ⟨bs, false, 0, rfl, rfl, rfl, by omega, HS.out, (fun _ => ⟨rfl, fun j e hj => by omega⟩), (fun h => by cases h), Nat.le_refl _, HR.out⟩
      case round =>
        obtain ⟨bs2, mo, i, rfl, rfl, hm2, hi, hS2, hf2, ht2, hc2, hR2⟩ := hrel
        have HS2 : Hid (Sk (okE ss steps no) es n src bs2) := hS2
        have HR2 : Hid (Rd4 w wr G n (.slice p es.length c) sv gi go es ⟨T, gp, cp, gt, ct⟩ ps ss root win bs2) := hR2
        have HF2 : Hid (mo = false → bs2 = bs ∧ ShutTo (okE ss steps no) es bs2 i) := hf2
        have HT2 : Hid (mo = true → bs2.count false < bs.count false) := ht2
        have HC2 : Hid (bs2.count false ≤ bs.count false) := hc2
        have c1 := hR2.ge.c1
        clear hS2 hR2 hf2 ht2 hc2
        by_cases hi' : i < es.length
        · obtain ⟨x, hx⟩ : ∃ x, es[i]? = some x := ⟨es[i], by simp [hi']⟩
          have hxm := List.mem_of_getElem? hx
          obtain ⟨q0, q1, q2, q3⟩ := hb x hxm
          obtain ⟨ge, c', e', hgl, d0, d1, d2⟩ := HR2.out.ge.cell i x hx
          simp only [Value.slice.injEq, true_and] at e'
          obtain ⟨rfl, rfl⟩ := e'
          obtain ⟨fa, fb, fc⟩ := x
          simp only at q0 q1 q2 q3 d0 d1 d2
          obtain ⟨na, rfl⟩ : ∃ na : Nat, fa = na := ⟨fa.toNat, by omega⟩
          obtain ⟨nb, rfl⟩ : ∃ nb : Nat, fb = nb := ⟨fb.toNat, by omega⟩
          have hrl : w.heap.size < wr.heap.size := HR2.out.row.lt
          have hlen2 : bs2.length = n := HS2.out.len
          obtain ⟨ba, hba⟩ : ∃ ba, bs2[na]? = some ba := ⟨bs2[na]'(by omega), List.getElem?_eq_getElem (by omega)⟩
          obtain ⟨bb, hbb⟩ : ∃ bb, bs2[nb]? = some bb := ⟨bs2[nb]'(by omega), List.getElem?_eq_getElem (by omega)⟩
          have ca : wr.cell? ⟨w.heap.size, na, none⟩ = some (.bool ba) := by rw [HR2.out.row.cell]; simp [hba]
          have cb : wr.cell? ⟨w.heap.size, nb, none⟩ = some (.bool bb) := by rw [HR2.out.row.cell]; simp [hbb]
          have fzr : ∀ o, wr.frozen? ⟨w.heap.size, o, none⟩ = false := HR2.out.row.froz
          have HX : Hid (es[i]? = some ⟨(na : Int), (nb : Int), fc⟩) := hx
          have HBA : Hid (bs2[na]? = some ba) := hba
          have HBB : Hid (bs2[nb]? = some bb) := hbb
          have hne1 : ¬ w.heap.size = wr.heap.size := by omega
          have hne2 : ¬ wr.heap.size = w.heap.size := by omega
          have hne3 : ¬ ge = wr.heap.size := by omega
          have hG1 : ¬ G = wr.heap.size := by have := HR2.out.gr.lt; omega
          have HN : Hid (∀ ob, Rd4 w (wr.alloc ob) G n (.slice (some ⟨ge, 0, none⟩) es.length c) sv gi go es ⟨T, gp, cp, gt, ct⟩ ps ss root win bs2) := fun ob => HR2.out.next ((Kp.refl _ _).alloc _)
          clear hx hba hbb
          by_cases hskip : ba = false ∨ bb = true
          · have HSK : Hid (okE ss steps no ⟨(na : Int), (nb : Int), fc⟩ → bs2[(na : Int).toNat]? = some true → bs2[(nb : Int).toNat]? = some true) := by
              intro _ hh
              simp only [Int.toNat_natCast] at hh ⊢
              rcases hskip with e | e
              · rw [HBA.out, e] at hh; cases hh
              · rw [HBB.out, e]
            rcases hskip with e | e
            all_goals
              subst e
              go_wp2
              all_goals
                go_roundg (es.length - (i + 1))
                case measure => omega
                case rel => exact ⟨bs2, mo, i + 1, rfl, by simp, rfl, by omega, HS2.out, (fun h => ⟨(HF2.out h).1, (HF2.out h).2.next HX.out HSK.out⟩), HT2.out, HC2.out, HN.out _⟩
          · obtain ⟨rfl, rfl⟩ : ba = true ∧ bb = false := by
              cases ba <;> cases bb <;> simp at hskip ⊢
            clear hskip
            have hcount := count_set HBB.out
            have HTK : Hid (okE ss steps no ⟨(na : Int), (nb : Int), fc⟩ → Sk (okE ss steps no) es n src (bs2.set nb true)) := fun ho => by
              have := HS2.out.set (e := ⟨(na : Int), (nb : Int), fc⟩) hxm ho (by simpa using HBA.out) (by simp; omega)
              simpa using this
            have HNT : Hid (¬ okE ss steps no ⟨(na : Int), (nb : Int), fc⟩ → okE ss steps no ⟨(na : Int), (nb : Int), fc⟩ → bs2[(na : Int).toNat]? = some true → bs2[(nb : Int).toNat]? = some true) := fun h1 h2 => absurd h2 h1
            have HW : Hid (∀ ob m, Rd4 w (((wr.alloc ob).drewN m).setCell ⟨w.heap.size, nb, none⟩ (.bool true)) G n (.slice (some ⟨ge, 0, none⟩) es.length c) sv gi go es ⟨T, gp, cp, gt, ct⟩ ps ss root win (bs2.set nb true)) := by
              intro ob m
              obtain ⟨hg', he', ht'⟩ := H.out
              have kk : Nw w (((wr.alloc ob).drewN m).setCell ⟨w.heap.size, nb, none⟩ (.bool true)) := ((HR2.out.nw.alloc _).drewN _).setCell (p := ⟨w.heap.size, nb, none⟩) (Or.inl (Nat.le_refl _)) _
              refine ⟨hg'.sm (kk.sm hg'.lt (fun h => h)), he'.nw kk, ht'.nw kk, ?_, kk⟩
              rw [List.map_set]
              exact (show Row ((wr.alloc ob).drewN m) _ _ _ from HR2.out.row.alloc ob).set nb (.bool true)
            have HN2 : Hid (∀ ob m, Rd4 w ((wr.alloc ob).drewN m) G n (.slice (some ⟨ge, 0, none⟩) es.length c) sv gi go es ⟨T, gp, cp, gt, ct⟩ ps ss root win bs2) := fun ob m => HR2.out.next (((Kp.refl _ _).alloc _).drewN _)
            by_cases hfc : fc < 0
            · have hok : Hid (okE ss steps no ⟨(na : Int), (nb : Int), fc⟩) := Or.inl hfc
              go_wp2
              go_quiet (fail)
              go_wp2
              go_roundg (es.length - (i + 1))
              case measure => omega
              case rel => exact ⟨bs2.set nb true, true, i + 1, rfl, by simp, rfl, by omega, HTK.out hok.out, (fun h => by cases h), (fun _ => by have := HC2.out; omega), by have := HC2.out; omega, HW.out _ _⟩
            · have hfd : decide (fc < 0) = false := by simp; omega
              cases steps with
              | false =>
                have hok : Hid (¬ okE ss false no ⟨(na : Int), (nb : Int), fc⟩) := (fun h => h.elim hfc (fun h2 => by cases h2.1))
                go_wp2
                go_quiet (fail)
                go_wp2
                go_roundg (es.length - (i + 1))
                case measure => omega
                case rel => exact ⟨bs2, mo, i + 1, rfl, by simp, rfl, by omega, HS2.out, (fun h => ⟨(HF2.out h).1, (HF2.out h).2.next HX.out (HNT.out hok.out)⟩), HT2.out, HC2.out, HN2.out _ _⟩
              | true =>
                by_cases hno : no < 0
                · have hnd : decide (no < 0) = true := by simp; omega
                  have hok : Hid (okE ss true no ⟨(na : Int), (nb : Int), fc⟩) := Or.inr ⟨rfl, Or.inl hno⟩
                  go_wp2
                  go_quiet (fail)
                  go_wp2
                  go_roundg (es.length - (i + 1))
                  case measure => omega
                  case rel => exact ⟨bs2.set nb true, true, i + 1, rfl, by simp, rfl, by omega, HTK.out hok.out, (fun h => by cases h), (fun _ => by have := HC2.out; omega), by have := HC2.out; omega, HW.out _ _⟩
                · have hnd : decide (no < 0) = false := by simp; omega
                  have hlt := hst rfl (by omega) _ hxm (by simp; omega)
                  simp only at hlt
                  obtain ⟨nc, rfl⟩ : ∃ nc : Nat, fc = nc := ⟨fc.toNat, by omega⟩
                  have hlt' : nc < ss.length := by omega
                  obtain ⟨sx, hsx⟩ : ∃ sx, ss[nc]? = some sx := ⟨ss[nc], List.getElem?_eq_getElem hlt'⟩
                  have t1 := HR2.out.tr.c1
                  have t2 := (HR2.out.tr.step nc sx hsx).2.1
                  have hgt : ¬ gt = wr.heap.size := by have := HR2.out.tr.ltt; simp only at this; omega
                  have hTT : ¬ T = wr.heap.size := by have := HR2.out.tr.ltT; simp only at this; omega
                  have hTl : T < wr.heap.size := HR2.out.tr.ltT
                  have htl : gt < wr.heap.size := HR2.out.tr.ltt
                  simp only at t1 t2
                  have HSX : Hid (ss[nc]? = some sx) := hsx
                  clear hsx hlt
                  by_cases hnm : sx.1.name = no
                  · have hnm' : (sx.1.name != no) = false := by simp [hnm]
                    have hoo : ¬ okE ss true no ⟨(na : Int), (nb : Int), (nc : Int)⟩ := by
                      rintro (h | ⟨_, h | h⟩)
                      · simp at h; omega
                      · exact hno h
                      · exact h sx (by simpa using HSX.out) hnm
                    clear hnm
                    have hok : Hid (¬ okE ss true no ⟨(na : Int), (nb : Int), (nc : Int)⟩) := hoo
                    go_wp2
                    go_quiet (fail)
                    go_wp2
                    go_roundg (es.length - (i + 1))
                    case measure => omega
                    case rel => exact ⟨bs2, mo, i + 1, rfl, by simp, rfl, by omega, HS2.out, (fun h => ⟨(HF2.out h).1, (HF2.out h).2.next HX.out (HNT.out hok.out)⟩), HT2.out, HC2.out, HN2.out _ _⟩
                  · have hnm' : (sx.1.name != no) = true := by simp [hnm]
                    have hoo : okE ss true no ⟨(na : Int), (nb : Int), (nc : Int)⟩ := Or.inr ⟨rfl, Or.inr (fun y hy => by
                      simp only [Int.toNat_natCast] at hy
                      rw [HSX.out] at hy; cases hy; exact hnm)⟩
                    clear hnm
                    have hok : Hid (okE ss true no ⟨(na : Int), (nb : Int), (nc : Int)⟩) := hoo
                    go_wp2
                    go_quiet (fail)
                    go_wp2
                    go_roundg (es.length - (i + 1))
                    case measure => omega
                    case rel => exact ⟨bs2.set nb true, true, i + 1, rfl, by simp, rfl, by omega, HTK.out hok.out, (fun h => by cases h), (fun _ => by have := HC2.out; omega), by have := HC2.out; omega, HW.out _ _⟩
        · have ei : i = es.length := by omega
          go_wp2
          go_roundg (2 * bs2.count false + (if mo = true then 1 else 0))
          case measure =>
            rw [HM.out]
            cases mo with
            | true => have := HT2.out rfl; simp; omega
            | false => have := HC2.out; simp; omega
          case rel => exact ⟨bs2, mo, rfl, rfl, HS2.out, (fun h => by have := (HF2.out h).2; rw [ei] at this; exact this), HR2.out⟩
end Go.Proofs.YtcboiapggnmpfaaGreat
