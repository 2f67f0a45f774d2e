/- Walks: program: the walk over instructions. -/
import Derived.Test.YtcboiapggnmpfaaGreatQb
namespace Go.Proofs.YtcboiapggnmpfaaGreat
open Go.RowKit
set_option linter.unusedSimpArgs false
set_option linter.unusedVariables false

/-- A walk of program's lies in block R: its code, which are reached, which are yet to be left. -/
structure Wk (w : World) (R : Nat) (cv rv ov : Value) : Prop where
  c0 : w.cell? ⟨R, 0, none⟩ = some cv
  c1 : w.cell? ⟨R, 1, none⟩ = some rv
  c2 : w.cell? ⟨R, 2, none⟩ = some ov
  fz : ∀ o, w.frozen? ⟨R, o, none⟩ = false
theorem Wk.lt {w : World} {R : Nat} {cv rv ov : Value} (h : Wk w R cv rv ov) : R < w.heap.size := World.block_lt_of_cell? w ⟨R, 0, none⟩ h.c0
theorem Wk.sm {w w' : World} {R : Nat} {cv rv ov : Value} (h : Wk w R cv rv ov) (s : Sm w w' R) : Wk w' R cv rv ov :=
  ⟨(s.cell 0).trans h.c0, (s.cell 1).trans h.c1, (s.cell 2).trans h.c2, fun o => (s.froz o).trans (h.fz o)⟩
theorem Wk.set2 {w : World} {R : Nat} {cv rv ov : Value} (h : Wk w R cv rv ov) (v : Value) : Wk (w.setCell ⟨R, 2, none⟩ v) R cv rv v := by
  obtain ⟨c0, c1, c2, fz⟩ := h
  constructor <;> simp [go_sem, c0, c1, c2, fz]
/-- The walk's whole state. -/
structure WS (w : World) (R g cap gb : Nat) (l : List In) (ov : Value) (bs : List Bool) (q : List Nat) : Prop where
  wk : Wk w R (.slice (some ⟨g, 0, none⟩) l.length cap) (.slice (some ⟨gb, 0, none⟩) l.length l.length) ov
  code : Code' w g l
  row : Row w gb 4 (bs.map Value.bool)
  own : w.ownsRow gb 3 1 ov q.length (intsV q)
  len : bs.length = l.length
  cnt : q.length + bs.count false ≤ l.length + 1
  hg : g < gb
  hR : gb < R
  ne : ¬ ov.ownBlock = some R
/-- Only the walk's own blocks are written. -/
abbrev KW (R gb : Nat) (ov : Value) (w w' : World) : Prop := Kp (fun b => b = R ∨ b = gb ∨ ov.ownBlock = some b) w w'
def ReachPostV (w : World) (R g cap gb : Nat) (l : List In) (ov : Value) (bs : List Bool) (q : List Nat) (j : Nat) (e : Ending) (w' : World) : Prop :=
  e = .returned (.tuple #[]) ∧ ((bs[j]? = some true ∧ w' = w) ∨ (bs[j]? = some false ∧ ∃ ov', WS w' R g cap gb l ov' (bs.set j true) (q ++ [j]) ∧ Kp (fun b => gb ≤ b) w w'))
set_option maxRecDepth 100000 in
set_option maxHeartbeats 1000000 in
theorem reach_any (R g cap gb j : Nat) (l : List In) (ov : Value) (bs : List Bool) (q : List Nat) (w : World) (h : WS w R g cap gb l ov bs q) (hj : j < l.length) (hn : l.length ≤ 1000) :
    Calls Tryz.prog 182 #[.pointer (some ⟨R, 0, none⟩), .int .i64 j] w (ReachPostV w R g cap gb l ov bs q j) := by
  have H : Hid (WS w R g cap gb l ov bs q) := h
  obtain ⟨⟨c0, c1, c2, fz⟩, hcode, hrow, hown, hlen, hcnt, hg, hR, hne⟩ := h
  have hl : R < w.heap.size := H.out.wk.lt
  obtain ⟨i1, hi1, hy0, hy1, hy2⟩ := info_parts Tryz.info3
  obtain ⟨b, hb⟩ : ∃ b, bs[j]? = some b := ⟨bs[j]'(by rw [hlen]; exact hj), by simp [hlen, hj]⟩
  have cb : w.cell? ⟨gb, j, none⟩ = some (.bool b) := by rw [hrow.cell]; simp [hb]
  have fb : ∀ o, w.frozen? ⟨gb, o, none⟩ = false := hrow.froz
  have hRg : ¬ R = gb := by omega
  have hRg' : ¬ gb = R := by omega
  have HB : Hid (bs[j]? = some b) := hb
  clear hb hcode hrow
  cases b with
  | true =>
    go_enter Tryz.func182, Tryz.ntmps182
    go_wp2
    go_end0
    exact ⟨rfl, Or.inl ⟨HB.out, rfl⟩⟩
  | false =>
    have ks : Kp (fun b => b = gb) w (w.setCell ⟨gb, j, none⟩ (.bool true)) := (Kp.refl (fun b => b = gb) w).setCell (p := ⟨gb, j, none⟩) (Or.inr rfl) _
    have hrow' := owns_row_ne hown H.out.row (by decide)
    have O1 : Hid ((w.setCell ⟨gb, j, none⟩ (.bool true)).ownsRow gb 3 1 ov q.length (intsV q)) := owns_kp hown ks (by intro b hb e; subst e; exact hrow' hb.symm)
    have KS : Hid (Kp (fun b => b = gb) w (w.setCell ⟨gb, j, none⟩ (.bool true))) := ks
    have HRW : Hid (¬ some gb = ov.ownBlock) := hrow'
    clear ks hown hrow'
    go_enter Tryz.func182, Tryz.ntmps182
    go_wp2_with (at_builtin; refine wpList_append_lies _ rfl _ _ 73 rfl gb 3 i1 (.int .i64 0) 1 8 Tryz.underlying73 hi1 hy0 hy1 hy2 rfl (by decide) _ _ _ rfl (O1.out.alloc _) ⟨w.heap.size, 0, none⟩ 1 1 [.int .i64 (j : Int)] rfl rfl ?c1 ?c2 (by decide) ?c3 ?c4 ?c5 _ rfl ?_)
    case c1 => exact news_one _ (by simp) _ _
    case c2 => exact intsV_one [j]
    case c3 => unfold maxLen; omega
    case c4 => omega
    case c5 => simp; omega
    intro g3 cap3 w3 hown3 hgrow hat hlt
    have kg : Kp (fun b => b = gb ∨ ov.ownBlock = some b) w w3 := ((KS.out.mono (fun _ _ e => Or.inl e)).alloc _).grown hgrow (by intro b hb; exact Or.inr (Or.inr hb))
    have hnS : ¬ (R = gb ∨ ov.ownBlock = some R) := by
      rintro (e | e)
      · exact hRg e
      · exact hne e
    have wk3 : Wk w3 R (.slice (some ⟨g, 0, none⟩) l.length cap) (.slice (some ⟨gb, 0, none⟩) l.length l.length) ov := H.out.wk.sm (kg.sm hl hnS)
    have hg3 : ¬ g3 = R := by
      rcases hat with e | e
      · intro e2; subst e2; exact hne e
      · have : w.heap.size ≤ g3 := by rw [e]; simp
        omega
    have hge : ∀ b, ov.ownBlock = some b → gb ≤ b := by
      intro b hb
      rcases H.out.own.2 with ⟨e1, _⟩ | ⟨g', cap', cur, e1, e2, _⟩
      · rw [e1] at hb; simp [Value.ownBlock] at hb
      · rw [e1] at hb; simp [Value.ownBlock] at hb; omega
    have R3 : Hid (Row w3 gb 4 ((bs.set j true).map Value.bool)) := by
      have := ((H.out.row.set j (.bool true)).alloc (.cells #[.int .i64 (j : Int)] 3)).grown hgrow HRW.out
      show Row _ _ _ _
      rw [List.map_set]; exact this
    have C3 : Hid (Code' w3 g l) := H.out.code.kp kg (by
      rintro (e | e)
      · omega
      · have := hge g e; omega)
    have O3 : Hid (w3.ownsRow gb 3 1 (.slice (some ⟨g3, 0, none⟩) (q.length + 1) cap3) (q ++ [j]).length (intsV (q ++ [j]))) := by
      have e1 : (q ++ [j]).length = q.length + 1 := by simp
      have e2 : intsV (q ++ [j]) = intsV q ++ [.int .i64 (j : Int)] := by simp [intsV]
      show w3.ownsRow _ _ _ _ _ _
      rw [e1, e2]; exact hown3
    have K3 : Hid (Kp (fun b => gb ≤ b) w w3) := kg.mono (by
      rintro b _ (e | e)
      · omega
      · exact hge b e)
    have W3 : Hid (Wk w3 R (.slice (some ⟨g, 0, none⟩) l.length cap) (.slice (some ⟨gb, 0, none⟩) l.length l.length) ov) := wk3
    obtain ⟨c0', c1', c2', fz'⟩ := wk3
    clear kg hown3 hgrow hat c0 c1 c2 fz cb fb
    go_wp2
    go_end0
    have kR : Kp (fun b => b = R) w3 (w3.setCell ⟨R, 2, none⟩ (.slice (some ⟨g3, 0, none⟩) (q.length + 1) cap3)) := (Kp.refl (fun b => b = R) w3).setCell (p := ⟨R, 2, none⟩) (Or.inr rfl) _
    refine ⟨rfl, Or.inr ⟨HB.out, .slice (some ⟨g3, 0, none⟩) (q.length + 1) cap3, ?_, ?_⟩⟩
    · refine ⟨W3.out.set2 _, C3.out.kp kR (by intro e; omega), R3.out.kp kR (fun e => hRg e.symm), owns_kp O3.out kR (by intro b hb e; simp [Value.ownBlock] at hb; exact hg3 (by omega)), by simp [hlen], ?_, hg, hR, by simpa [Value.ownBlock] using hg3⟩
      have := count_set HB.out
      simp; omega
    · exact K3.out.setCell (p := ⟨R, 2, none⟩) (Or.inr (by show gb ≤ R; omega)) _
end Go.Proofs.YtcboiapggnmpfaaGreat
