/- Walks: spotterlaw: a step of a script of Valids. -/
import Derived.Test.YtcboiapggnmpfaaGreatLi
import Derived.Test.YtcboiapggnmpfaaGreatLh
import Derived.Test.YtcboiapggnmpfaaGreatLd
namespace Go.Proofs.YtcboiapggnmpfaaGreat
open Go.RowKit
set_option linter.unusedSimpArgs false
set_option linter.unusedVariables false

theorem LSE.up {X : Oth} {w : World} {B n : Nat} (h : LSE X w B n) : LSE X w B (n + 1) := by
  obtain ⟨s, t, la, lb, cv, l, vs, F, h⟩ := h
  exact ⟨s, t, la, lb, cv, l, vs, F, h.up⟩
theorem LSE.nw {X : Oth} {w w' : World} {B n : Nat} (h : LSE X w B n) (k : Nw w w') : LSE X w' B n := by
  obtain ⟨s, t, la, lb, cv, l, vs, F, h⟩ := h
  exact ⟨s, t, la, lb, cv, l, vs, F, h.nw k⟩
theorem OwnPost.up {X : Oth} {w w' : World} {B n : Nat} {b : Bool} {e : Ending} (h : OwnPost X w B n b e w') : OwnPost X w B (n + 1) b e w' := ⟨h.1, h.2.1.up, h.2.2⟩
/-- What a step's numbers and text are: as the program's types have them. -/
structure Opr.Fit (o : Opr) : Prop where
  s : o.s.size ≤ maxLen
  a0 : -9223372036854775808 ≤ o.a
  a1 : o.a ≤ 9223372036854775807
theorem owner_own (hC : CompileOk) (X : Oth) (hM : MarksOk X) (B n : Nat) (o : Opr) (w : World) (h : LSE X w B n) (hk : 1 ≤ o.kind) (hk' : o.kind ≤ 8) (hf : o.Fit) (hn : n ≤ 740000000000) : Calls Tryz.prog 33 #[.pointer (some ⟨B, 0, none⟩), opV o] w (OwnPost X w B (n + 1) true) := by
  have : o.kind = 1 ∨ o.kind = 2 ∨ o.kind = 3 ∨ o.kind = 4 ∨ o.kind = 5 ∨ o.kind = 6 ∨ o.kind = 7 ∨ o.kind = 8 := by omega
  rcases this with e | e | e | e | e | e | e | e
  · exact (owner_1 X B n o w h e hf.s).mono (fun _ _ h => h.up)
  · exact (owner_2 X B n o w h e hf.s).mono (fun _ _ h => h.up)
  · exact (owner_3 X B n o w h e).mono (fun _ _ h => h.up)
  · exact owner_4 X B n o w h e hn
  · exact (owner_5 X B n o w h e).mono (fun _ _ h => h.up)
  · exact (owner_6 hC X B n o w h e).mono (fun _ _ h => h.up)
  · exact (owner_7 X B n o w h e hn hf.a0 hf.a1).mono (fun _ _ h => h.up)
  · exact (owner_8 X hM B n o w h e hn hf.a0 hf.a1).mono (fun _ _ h => h.up)
theorem owns_codeP {w : World} {base : Nat} {p : Option Addr} {c : Nat} {l : List In} (h : w.ownsRow base 40 14 (.slice p l.length c) l.length (codeC l)) : CodeP w p l := by
  intro hne
  obtain ⟨g, cap, e, hg, hg2⟩ := h.form (List.length_pos_iff.2 hne)
  simp only [Value.slice.injEq, true_and] at e
  obtain ⟨rfl, rfl⟩ := e
  exact ⟨g, rfl, hg2, fun i x hx => owns_ins h hx⟩
theorem Tryz.row44 : (Tryz.prog.underlying 44).map TypeDesc.isRow = some true := by kernel_rfl
theorem Tryz.size44 : (Tryz.prog.info? 44).map (·.size) = some 23 := by kernel_rfl
theorem range_new (w : World) (cs : List Value) (t : TypeId) {B : Nat} (hB : B = w.heap.size) : (w.alloc (.cells cs.toArray t)).rangeAt B 0 cs := by
  subst hB
  intro j v hv
  rw [Nat.zero_add, World.cell?_alloc_at (w := w) cs.toArray t _ j rfl]
  simpa using hv
theorem range_is (w : World) (o : Opr) (W : World) (hW : W = w.alloc (.cells (opC o).toArray 44)) : W.rangeAt w.heap.size 0 (opC o) := by rw [hW]; exact range_new w (opC o) _ rfl
theorem opC_length (o : Opr) : (opC o).length = 23 := by simp [opC]
theorem sizeO (o : Opr) : (Tryz.prog.info? 44).map (·.size) = some (opC o).length := by rw [opC_length]; exact Tryz.size44
set_option maxRecDepth 100000 in
set_option maxHeartbeats 1000000 in
theorem step_own (hC : CompileOk) (X : Oth) (hM : MarksOk X) (B n : Nat) (o : Opr) (w : World) (h : LSE X w B n) (hk : 1 ≤ o.kind) (hk' : o.kind ≤ 8) (hf : o.Fit) (hn : n ≤ 740000000000) : Calls Tryz.prog 14 #[.pointer (some ⟨B, 0, none⟩), opV o] w (OwnPost X w B (n + 1) true) := by
  have h2 : Hid (∀ ob, LSE X (w.alloc ob) B n) := fun ob => h.nw ((Kp.refl _ _).alloc _)
  obtain ⟨d, hu, hd⟩ := Option.map_eq_some_iff.1 Tryz.row44
  have HU : Hid (Tryz.prog.underlying 44 = some d) := hu
  have HD : Hid (d.isRow = true) := hd
  clear hu hd
  unfold opV
  go_enter Tryz.func14, Tryz.ntmps14
  go_wp2_with (first | (with_reducible (show Go.wpList _ _ _ ({ dst := _, op := Op.load _ _, type := _, pos := _, after := _, guard := _ } :: _) _ _); refine wpList_load_mid rfl 44 _ rfl w.heap.size 0 rfl (opC o) d (range_is w o _ rfl) HU.out HD.out (sizeO o) ?_) | fail)
  go_wp2_with fail
  refine (owner_own hC X hM B n o _ (h2.out _) hk hk' hf hn).mono ?_
  rintro e w1 ⟨rfl, h1, k1⟩
  go_wp2
  go_ret
  exact ⟨rfl, h1, ((Kp.refl _ w).alloc _).trans k1⟩
set_option maxRecDepth 100000 in
set_option maxHeartbeats 1000000 in
theorem step_low (X : Oth) (B n : Nat) (o : Opr) (w : World) (h : LSE X w B n) (hk : o.kind < 1) : Calls Tryz.prog 14 #[.pointer (some ⟨B, 0, none⟩), opV o] w (OwnPost X w B n true) := by
  have h2 : Hid (∀ ob, LSE X (w.alloc ob) B n) := fun ob => h.nw ((Kp.refl _ _).alloc _)
  obtain ⟨d, hu, hd⟩ := Option.map_eq_some_iff.1 Tryz.row44
  have HU : Hid (Tryz.prog.underlying 44 = some d) := hu
  have HD : Hid (d.isRow = true) := hd
  clear hu hd
  unfold opV
  go_enter Tryz.func14, Tryz.ntmps14
  go_wp2_with (first | (with_reducible (show Go.wpList _ _ _ ({ dst := _, op := Op.load _ _, type := _, pos := _, after := _, guard := _ } :: _) _ _); refine wpList_load_mid rfl 44 _ rfl w.heap.size 0 rfl (opC o) d (range_is w o _ rfl) HU.out HD.out (sizeO o) ?_) | fail)
  go_wp2_with fail
  refine (owner_off X B n o _ (h2.out _) (Or.inl hk)).mono ?_
  rintro e w1 ⟨rfl, h1, k1⟩
  obtain ⟨kk, hl, ⟨kc, kz⟩⟩ := k1.box (fun h => h)
  have K1 : Hid (Nw w w1) := kk
  have H1 : Hid (LSE X w1 B n) := h1
  have e9 : (o.kind == 9) = false := by simp; omega
  have e10 : (o.kind == 10) = false := by simp; omega
  have e11 : (o.kind == 11) = false := by simp; omega
  have e12 : (o.kind == 12) = false := by simp; omega
  have e13 : (o.kind == 13) = false := by simp; omega
  have e14 : (o.kind == 14) = false := by simp; omega
  have e15 : (o.kind == 15) = false := by simp; omega
  have e16 : (o.kind == 16) = false := by simp; omega
  clear kk k1 h1 hk
  go_wp2
  go_ret
  exact ⟨rfl, H1.out, K1.out.mono (fun _ _ h => False.elim h)⟩
set_option maxRecDepth 100000 in
set_option maxHeartbeats 1000000 in
theorem step_valid (X : Oth) (B n : Nat) (o : Opr) (w : World) (h : LSE X w B n) (hk : o.kind = 11) (hn : n ≤ 740000000000) : Calls Tryz.prog 14 #[.pointer (some ⟨B, 0, none⟩), opV o] w (OwnPost X w B n true) := by
  have HKK : Hid (o.kind = 11) := hk
  clear hk
  have h2 : Hid (∀ ob, LSE X (w.alloc ob) B n) := fun ob => h.nw ((Kp.refl _ _).alloc _)
  obtain ⟨d, hu, hd⟩ := Option.map_eq_some_iff.1 Tryz.row44
  have HU : Hid (Tryz.prog.underlying 44 = some d) := hu
  have HD : Hid (d.isRow = true) := hd
  clear hu hd
  unfold opV
  go_enter Tryz.func14, Tryz.ntmps14
  go_wp2_with (first | (with_reducible (show Go.wpList _ _ _ ({ dst := _, op := Op.load _ _, type := _, pos := _, after := _, guard := _ } :: _) _ _); refine wpList_load_mid rfl 44 _ rfl w.heap.size 0 rfl (opC o) d (range_is w o _ rfl) HU.out HD.out (sizeO o) ?_) | fail)
  go_wp2_with fail
  refine (owner_off X B n o _ (h2.out _) (Or.inr (by rw [HKK.out]; omega))).mono ?_
  rintro e w1 ⟨rfl, h1, k1⟩
  obtain ⟨kk, hl, ⟨kc, kz⟩⟩ := k1.box (fun h => h)
  have K1 : Hid (Nw w w1) := kk
  obtain ⟨s, t, la, lb, cv, l, vs, F, h1⟩ := h1
  have H1 : Hid (LS X w1 B n s t la lb cv l vs F) := h1
  obtain ⟨p, c, rfl⟩ := owns_len h1.own
  have c4 := h1.lw.c4
  have CP : Hid (CodeP w1 p l) := owns_codeP h1.own
  have hlen := h1.len
  have k0 : w1.cell? ⟨w.heap.size, 0, none⟩ = some (.int .i64 11) := by
    rw [kc 0, World.cell?_alloc_at (w := w) _ _ _ _ rfl, ← HKK.out]; rfl
  clear kc kz
  clear kk k1 h1
  go_wp2_with fail
  refine (valid_any p c l w1 CP.out (by omega)).mono ?_
  rintro e w2 ⟨rfl, k2⟩
  have H2 : Hid (LS X w2 B n s t la lb (.slice p l.length c) l vs F) := H1.out.nw k2
  have K2 : Hid (Nw w w2) := K1.out.trans k2
  clear k2 k0 c4
  go_wp2
  go_ret
  exact ⟨rfl, ⟨_, _, _, _, _, _, _, _, H2.out⟩, K2.out.mono (fun _ _ h => False.elim h)⟩
end Go.Proofs.YtcboiapggnmpfaaGreat
