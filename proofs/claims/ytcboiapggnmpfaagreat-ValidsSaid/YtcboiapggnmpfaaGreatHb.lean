/- Walks: spotterref: the places behind a point. -/
import Derived.Test.YtcboiapggnmpfaaGreatHa
namespace Go.Proofs.YtcboiapggnmpfaaGreat
open Go.RowKit
set_option linter.unusedSimpArgs false
set_option linter.unusedVariables false

def BehindPost (w : World) (M : Nat) (e : Ending) (w' : World) : Prop := ∃ (v : Value) (l : List Int), e = .returned v ∧ w'.ownsRow w.heap.size 3 1 v l.length (l.map (Value.int .i64)) ∧ l.length ≤ M + 1 ∧ (∀ x ∈ l, 0 ≤ x ∧ x ≤ M) ∧ Nw w w'
/-- A list of ints that is gathered, beside a row of bools. -/
structure Gat (w wr : World) (v : Value) (l : List Int) (bs : List Bool) (M k : Nat) : Prop where
  own : wr.ownsRow (w.heap.size + 1) 3 1 v l.length (l.map (Value.int .i64))
  len : l.length ≤ k
  ok : ∀ x ∈ l, 0 ≤ x ∧ x ≤ M
  row : Row wr w.heap.size 4 (bs.map Value.bool)
  nw : Nw w wr
theorem Gat.next {w wr w' : World} {v : Value} {l : List Int} {bs : List Bool} {M k : Nat} (h : Gat w wr v l bs M k) (kk : Nw wr w') : Gat w w' v l bs M k :=
  ⟨owns_kp h.own kk (fun _ _ h => h), h.len, h.ok, h.row.kp kk (fun h => h), h.nw.trans kk⟩
theorem Gat.more {w wr w' : World} {v v' : Value} {l : List Int} {bs : List Bool} {M k : Nat} {x : Int} {ob : Obj} (h : Gat w wr v l bs M k) (hg : (wr.alloc ob).grownBy w' v.ownBlock) (ho : w'.ownsRow (w.heap.size + 1) 3 1 v' (l.length + 1) (l.map (Value.int .i64) ++ [.int .i64 x])) (hx : 0 ≤ x ∧ x ≤ M) : Gat w w' v' (l ++ [x]) bs M (k + 1) := by
  have hge : ∀ b, v.ownBlock = some b → w.heap.size + 1 ≤ b := fun b hb => (h.own.lt b hb).1
  have hlen := h.len
  refine ⟨?_, by simp; omega, ?_, (h.row.alloc ob).grown hg (fun e => by have := hge _ e.symm; omega), (h.nw.alloc _).grown hg (fun b hb => Or.inl (by have := hge b hb; omega))⟩
  · have e1 : (l ++ [x]).length = l.length + 1 := by simp
    have e2 : (l ++ [x]).map (Value.int .i64) = l.map (Value.int .i64) ++ [.int .i64 x] := by simp
    rw [e1, e2]; exact ho
  · intro y hy
    rcases List.mem_append.1 hy with hy | hy
    · exact h.ok y hy
    · simp at hy; subst hy; exact hx
theorem Gat.mono {w wr : World} {v : Value} {l : List Int} {bs : List Bool} {M k k' : Nat} (h : Gat w wr v l bs M k) (hk : k ≤ k') : Gat w wr v l bs M k' := ⟨h.own, Nat.le_trans h.len hk, h.ok, h.row, h.nw⟩
theorem owns_baseB {w : World} {base base' n size : Nat} {e : TypeId} {v : Value} {xs : List Value} (h : w.ownsRow base e size v n xs) (hb : base' ≤ base) : w.ownsRow base' e size v n xs := owns_baseP h hb
set_option maxRecDepth 100000 in
set_option maxHeartbeats 2000000 in
theorem behindG_any {w : World} {G n : Nat} {ev : Value} {sp : Option Addr} {M sc : Nat} {gi go : Nat} {es : List Ed} {Q : TP} {ps : List Pt} {ss : List (St × Value)} {root win : Int} (h : GQ w G n ev (.slice sp M sc) gi go es Q ps ss root win) (hM : M ≤ 1000) (src : Nat) (hs : src < n) :
    Calls Tryz.prog 92 #[.pointer (some ⟨G, 0, none⟩), .pointer (some ⟨Q.T, 0, none⟩), .int .i64 src] w (BehindPost w M) := by
  have H : Hid (GQ w G n ev (.slice sp M sc) gi go es Q ps ss root win) := h
  have HR := reachW h src hs false (-1) (by intro h; cases h)
  have HEE : Hid (∀ j : Int, ∃ (a b : Nat) (c : Int), edOf j es = ⟨a, b, c⟩ ∧ a < n ∧ b < n) := fun j => edOf_ok h.ok (by have := h.hgi; omega) j
  have hn := h.hn
  have hgo := h.hgo
  clear h
  obtain ⟨i3, hi3, hy0, hy1, hy2⟩ := info_parts Tryz.info3
  go_enter Tryz.func92, Tryz.ntmps92
  go_wp2_with fail
  refine HR.mono ?_
  rintro e w1 ⟨bs, rfl, hrow, hbl, k1⟩
  have R1 : Hid (Gat w w1 (.slice none 0 0) [] bs M 0) := ⟨World.ownsRow_nil _ _ _ _, by simp, (by intro x hx; cases hx), hrow, k1⟩
  have hl1 := hrow.lt
  clear hrow k1 HR
  go_wp2
  go_loopg [8, 9] M (fun m v8 v9 wr => ∃ (k : Nat) (l : List Int), v9 = .int .i64 k ∧ m = M - k ∧ k ≤ M ∧ Gat w wr v8 l bs M k)
  case atStart => exact ⟨0, [], rfl, rfl, by omega, R1.out⟩
  case round =>
    obtain ⟨k, l, rfl, hm, hk, hG⟩ := hrel
    have G1 : Hid (Gat w wr u8 l bs M k) := hG
    have c2 := (H.out.nw hG.nw).gr.c2
    have c4 := (H.out.nw hG.nw).gr.c4
    have hlr := hG.row.lt
    have hll := hG.len
    clear hG R1 hl1
    by_cases hk' : k < M
    · obtain ⟨a, b, c, he, ha, hb⟩ := HEE.out (k : Int)
      have HE : Hid (edOf (k : Int) es = ⟨a, b, c⟩) := he
      clear he
      go_wp2_with fail
      refine (edgeOf_any G ev es k wr (H.out.nw G1.out.nw).ge).mono ?_
      rintro e w2 ⟨rfl, k2⟩
      rw [HE.out]
      unfold edV
      have G2 : Hid (∀ ob, Gat w (w2.alloc ob) u8 l bs M k) := fun ob => (G1.out.next k2).next ((Kp.refl _ _).alloc ob)
      have hl2 : w.heap.size < w2.heap.size := Nat.lt_of_lt_of_le hlr k2.size
      obtain ⟨x, cx⟩ := row_bool (G1.out.next k2).row hbl ha
      have hq1 : ¬ w.heap.size = w2.heap.size := by omega
      have hq2 : ¬ w2.heap.size = w.heap.size := by omega
      clear k2 c2 c4 G1
      cases x with
      | false =>
        go_wp2
        go_roundg (M - (k + 1))
        case measure => omega
        case rel => exact ⟨k + 1, l, by simp, rfl, by omega, (G2.out _).mono (by omega)⟩
      | true =>
        go_wp2_with (at_builtin; refine wpList_append_lies _ rfl _ _ 73 rfl (w.heap.size + 1) 3 i3 (.int .i64 0) 1 8 Tryz.underlying73 hi3 hy0 hy1 hy2 rfl (by decide) _ _ _ rfl ((G2.out _).own.alloc _) ⟨w2.heap.size + 1, 0, none⟩ 1 1 [.int .i64 (k : Int)] rfl rfl ?hp1 ?hp2 (by decide) ?hp3 ?hp4 ?hp5 _ rfl ?_)
        case hp1 => exact news_snd w2 _ _ _
        case hp2 => intro u hu; simp at hu; subst hu; rfl
        case hp3 => unfold maxLen; omega
        case hp4 => omega
        case hp5 => simp; omega
        intro g cap w3 hown3 hgrow3 hat3 hlt3
        have G3 : Hid (Gat w w3 (.slice (some ⟨g, 0, none⟩) (l.length + 1) cap) (l ++ [(k : Int)]) bs M (k + 1)) := (G2.out _).more hgrow3 hown3 (by omega)
        clear hown3 hgrow3 hat3 G2
        go_wp2
        go_roundg (M - (k + 1))
        case measure => omega
        case rel => exact ⟨k + 1, l ++ [(k : Int)], by simp, rfl, by omega, G3.out⟩
    · obtain ⟨x, cx⟩ := row_bool G1.out.row hbl hgo
      have ek : k = M := by omega
      subst ek
      cases x with
      | false =>
        go_wp2
        go_ret
        exact ⟨_, l, rfl, owns_baseB G1.out.own (by omega), by omega, G1.out.ok, G1.out.nw⟩
      | true =>
        go_wp2_with (at_builtin; refine wpList_append_lies _ rfl _ _ 73 rfl (w.heap.size + 1) 3 i3 (.int .i64 0) 1 8 Tryz.underlying73 hi3 hy0 hy1 hy2 rfl (by decide) _ _ _ rfl (G1.out.own.alloc _) ⟨wr.heap.size, 0, none⟩ 1 1 [.int .i64 (k : Int)] rfl rfl ?hq1 ?hq2 (by decide) ?hq3 ?hq4 ?hq5 _ rfl ?_)
        case hq1 => exact news_one _ rfl _ _
        case hq2 => intro u hu; simp at hu; subst hu; rfl
        case hq3 => unfold maxLen; omega
        case hq4 => omega
        case hq5 => simp; omega
        intro g cap w3 hown3 hgrow3 hat3 hlt3
        have G3 : Hid (Gat w w3 (.slice (some ⟨g, 0, none⟩) (l.length + 1) cap) (l ++ [(k : Int)]) bs k (k + 1)) := G1.out.more hgrow3 hown3 (by omega)
        clear hown3 hgrow3 hat3 G1
        go_wp2
        go_ret
        have hg := G3.out
        have e1 : (l ++ [(k : Int)]).length = l.length + 1 := by simp
        exact ⟨_, l ++ [(k : Int)], rfl, owns_baseB hg.own (by omega), hg.len, hg.ok, hg.nw⟩
end Go.Proofs.YtcboiapggnmpfaaGreat
