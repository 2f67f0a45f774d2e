/- Walks: spotterlaw: the steps of a script on what the caller owns, but for three. -/
import Derived.Test.YtkeiameikijonaaGreatLe
import Derived.Test.YtkeiameikijonaaGreatQk
namespace Go.Proofs.YtkeiameikijonaaGreat
open Go.RowKit
set_option linter.unusedSimpArgs false
set_option linter.unusedVariables false

/-- A step of a script. -/
structure Opr where
  kind : Int
  a : Int
  b : Int
  s : ByteArray
  ins : In
  ev : Int × Int × Int × Int × Int
def opC (o : Opr) : List Value := [.int .i64 o.kind, .int .i64 o.a, .int .i64 o.b, .string o.s, .int .i64 o.ins.op, .int .i64 o.ins.a, .int .i64 o.ins.b, .int .i64 o.ins.test.left.of, .int .i64 o.ins.test.left.field, .int .i64 o.ins.test.left.num, .int .i64 o.ins.test.rel, .int .i64 o.ins.test.right.of, .int .i64 o.ins.test.right.field, .int .i64 o.ins.test.right.num, .int .i64 o.ins.test.arith, .int .i64 o.ins.test.more.of, .int .i64 o.ins.test.more.field, .int .i64 o.ins.test.more.num, .int .i64 o.ev.1, .int .i64 o.ev.2.1, .int .i64 o.ev.2.2.1, .int .i64 o.ev.2.2.2.1, .int .i64 o.ev.2.2.2.2]
def opV (o : Opr) : Value := .agg #[.int .i64 o.kind, .int .i64 o.a, .int .i64 o.b, .string o.s, .int .i64 o.ins.op, .int .i64 o.ins.a, .int .i64 o.ins.b, .int .i64 o.ins.test.left.of, .int .i64 o.ins.test.left.field, .int .i64 o.ins.test.left.num, .int .i64 o.ins.test.rel, .int .i64 o.ins.test.right.of, .int .i64 o.ins.test.right.field, .int .i64 o.ins.test.right.num, .int .i64 o.ins.test.arith, .int .i64 o.ins.test.more.of, .int .i64 o.ins.test.more.field, .int .i64 o.ins.test.more.num, .int .i64 o.ev.1, .int .i64 o.ev.2.1, .int .i64 o.ev.2.2.1, .int .i64 o.ev.2.2.2.1, .int .i64 o.ev.2.2.2.2]
/-- What a script has at hand behind n steps. -/
structure LS (w : World) (B n : Nat) (s t : ByteArray) (la lb : Int) (cv : Value) (l : List In) : Prop where
  lw : LW w B s t la lb cv
  own : w.ownsRow (B + 1) 39 14 cv l.length (codeC l)
  len : l.length ≤ n + 10000
  hs : s.size ≤ maxLen
  ht : t.size ≤ maxLen
def LSE (w : World) (B n : Nat) : Prop := ∃ s t la lb cv l, LS w B n s t la lb cv l
theorem LS.nw {w w' : World} {B n : Nat} {s t : ByteArray} {la lb : Int} {cv : Value} {l : List In} (h : LS w B n s t la lb cv l) (k : Nw w w') : LS w' B n s t la lb cv l :=
  ⟨h.lw.nw k, owns_kp h.own k (fun _ _ h => h), h.len, h.hs, h.ht⟩
theorem LS.up {w : World} {B n : Nat} {s t : ByteArray} {la lb : Int} {cv : Value} {l : List In} (h : LS w B n s t la lb cv l) : LS w B (n + 1) s t la lb cv l :=
  ⟨h.lw, h.own, by have := h.len; omega, h.hs, h.ht⟩
theorem LW.set0 {w : World} {B : Nat} {s t : ByteArray} {la lb : Int} {cv : Value} (h : LW w B s t la lb cv) (x : ByteArray) : LW (w.setCell ⟨B, 0, none⟩ (.string x)) B x t la lb cv := by
  obtain ⟨c0, c1, c2, c3, c4, c5, c6, c7, c8, c9, fz⟩ := h
  constructor <;> simp [go_sem, c0, c1, c2, c3, c4, c5, c6, c7, c8, c9, fz]
theorem LW.set1 {w : World} {B : Nat} {s t : ByteArray} {la lb : Int} {cv : Value} (h : LW w B s t la lb cv) (x : ByteArray) : LW (w.setCell ⟨B, 1, none⟩ (.string x)) B s x la lb cv := by
  obtain ⟨c0, c1, c2, c3, c4, c5, c6, c7, c8, c9, fz⟩ := h
  constructor <;> simp [go_sem, c0, c1, c2, c3, c4, c5, c6, c7, c8, c9, fz]
theorem LW.set2 {w : World} {B : Nat} {s t : ByteArray} {la lb : Int} {cv : Value} (h : LW w B s t la lb cv) (x : Int) : LW (w.setCell ⟨B, 2, none⟩ (.int .i64 x)) B s t x lb cv := by
  obtain ⟨c0, c1, c2, c3, c4, c5, c6, c7, c8, c9, fz⟩ := h
  constructor <;> simp [go_sem, c0, c1, c2, c3, c4, c5, c6, c7, c8, c9, fz]
theorem LW.set3 {w : World} {B : Nat} {s t : ByteArray} {la lb : Int} {cv : Value} (h : LW w B s t la lb cv) (x : Int) : LW (w.setCell ⟨B, 3, none⟩ (.int .i64 x)) B s t la x cv := by
  obtain ⟨c0, c1, c2, c3, c4, c5, c6, c7, c8, c9, fz⟩ := h
  constructor <;> simp [go_sem, c0, c1, c2, c3, c4, c5, c6, c7, c8, c9, fz]
theorem LW.set4 {w : World} {B : Nat} {s t : ByteArray} {la lb : Int} {cv : Value} (h : LW w B s t la lb cv) (x : Value) : LW (w.setCell ⟨B, 4, none⟩ x) B s t la lb x := by
  obtain ⟨c0, c1, c2, c3, c4, c5, c6, c7, c8, c9, fz⟩ := h
  constructor <;> simp [go_sem, c0, c1, c2, c3, c4, c5, c6, c7, c8, c9, fz]
theorem owns_setB {w : World} {B n size : Nat} {e : TypeId} {v : Value} {xs : List Value} (h : w.ownsRow (B + 1) e size v n xs) (o : Nat) (u : Value) : (w.setCell ⟨B, o, none⟩ u).ownsRow (B + 1) e size v n xs :=
  ownsRow_setCell_below h (a := ⟨B, o, none⟩) (Nat.lt_succ_self B) u
abbrev KB (B : Nat) (w w' : World) : Prop := Kp (fun b => B ≤ b) w w'
def OwnPost (w : World) (B n : Nat) (b : Bool) (e : Ending) (w' : World) : Prop := e = .returned (.bool b) ∧ LSE w' B n ∧ KB B w w'
set_option maxRecDepth 100000 in
set_option maxHeartbeats 1000000 in
theorem owner_1 (B n : Nat) (o : Opr) (w : World) (h : LSE w B n) (hk : o.kind = 1) (hs : o.s.size ≤ maxLen) : Calls Tryz.prog 10 #[.pointer (some ⟨B, 0, none⟩), opV o] w (OwnPost w B n true) := by
  obtain ⟨s, t, la, lb, cv, l, h⟩ := h
  have H : Hid (LS w B n s t la lb cv l) := h
  have hl := h.lw.lt
  obtain ⟨c0, c1, c2, c3, c4, c5, c6, c7, c8, c9, fz⟩ := h.lw
  clear h
  have hne : ¬ B = w.heap.size := by omega
  unfold opV
  rw [hk]
  go_enter Tryz.func10, Tryz.ntmps10
  go_wp2
  go_ret
  have h2 : LS (w.setCell ⟨B, 0, none⟩ (.string o.s)) B n o.s t la lb cv l := ⟨H.out.lw.set0 o.s, owns_setB H.out.own _ _, H.out.len, hs, H.out.ht⟩
  exact ⟨rfl, ⟨_, _, _, _, _, _, h2.nw ((Kp.refl _ _).alloc _)⟩, ((Kp.refl _ w).setCell (p := ⟨B, 0, none⟩) (Or.inr (Nat.le_refl B)) _).alloc _⟩
set_option maxRecDepth 100000 in
set_option maxHeartbeats 1000000 in
theorem owner_2 (B n : Nat) (o : Opr) (w : World) (h : LSE w B n) (hk : o.kind = 2) (hs : o.s.size ≤ maxLen) : Calls Tryz.prog 10 #[.pointer (some ⟨B, 0, none⟩), opV o] w (OwnPost w B n true) := by
  obtain ⟨s, t, la, lb, cv, l, h⟩ := h
  have H : Hid (LS w B n s t la lb cv l) := h
  have hl := h.lw.lt
  obtain ⟨c0, c1, c2, c3, c4, c5, c6, c7, c8, c9, fz⟩ := h.lw
  clear h
  have hne : ¬ B = w.heap.size := by omega
  unfold opV
  rw [hk]
  go_enter Tryz.func10, Tryz.ntmps10
  go_wp2
  go_ret
  have h2 : LS (w.setCell ⟨B, 1, none⟩ (.string o.s)) B n s o.s la lb cv l := ⟨H.out.lw.set1 o.s, owns_setB H.out.own _ _, H.out.len, H.out.hs, hs⟩
  exact ⟨rfl, ⟨_, _, _, _, _, _, h2.nw ((Kp.refl _ _).alloc _)⟩, ((Kp.refl _ w).setCell (p := ⟨B, 1, none⟩) (Or.inr (Nat.le_refl B)) _).alloc _⟩
set_option maxRecDepth 100000 in
set_option maxHeartbeats 1000000 in
theorem owner_3 (B n : Nat) (o : Opr) (w : World) (h : LSE w B n) (hk : o.kind = 3) : Calls Tryz.prog 10 #[.pointer (some ⟨B, 0, none⟩), opV o] w (OwnPost w B n true) := by
  obtain ⟨s, t, la, lb, cv, l, h⟩ := h
  have H : Hid (LS w B n s t la lb cv l) := h
  have hl := h.lw.lt
  obtain ⟨c0, c1, c2, c3, c4, c5, c6, c7, c8, c9, fz⟩ := h.lw
  clear h
  have hne : ¬ B = w.heap.size := by omega
  unfold opV
  rw [hk]
  go_enter Tryz.func10, Tryz.ntmps10
  go_wp2
  go_ret
  have h2 : LS ((w.setCell ⟨B, 2, none⟩ (.int .i64 o.a)).setCell ⟨B, 3, none⟩ (.int .i64 o.b)) B n s t o.a o.b cv l := ⟨(H.out.lw.set2 o.a).set3 o.b, owns_setB (owns_setB H.out.own _ _) _ _, H.out.len, H.out.hs, H.out.ht⟩
  exact ⟨rfl, ⟨_, _, _, _, _, _, h2.nw ((Kp.refl _ _).alloc _)⟩, (((Kp.refl _ w).setCell (p := ⟨B, 2, none⟩) (Or.inr (Nat.le_refl B)) _).setCell (p := ⟨B, 3, none⟩) (Or.inr (Nat.le_refl B)) _).alloc _⟩
set_option maxRecDepth 100000 in
set_option maxHeartbeats 1000000 in
theorem owner_5 (B n : Nat) (o : Opr) (w : World) (h : LSE w B n) (hk : o.kind = 5) : Calls Tryz.prog 10 #[.pointer (some ⟨B, 0, none⟩), opV o] w (OwnPost w B n true) := by
  obtain ⟨s, t, la, lb, cv, l, h⟩ := h
  have H : Hid (LS w B n s t la lb cv l) := h
  have hl := h.lw.lt
  obtain ⟨c0, c1, c2, c3, c4, c5, c6, c7, c8, c9, fz⟩ := h.lw
  clear h
  have hne : ¬ B = w.heap.size := by omega
  unfold opV
  rw [hk]
  go_enter Tryz.func10, Tryz.ntmps10
  go_wp2
  go_ret
  have h2 : LS (w.setCell ⟨B, 4, none⟩ (.slice none 0 0)) B n s t la lb (.slice none 0 0) [] := ⟨H.out.lw.set4 _, World.ownsRow_nil _ _ _ _, by simp, H.out.hs, H.out.ht⟩
  exact ⟨rfl, ⟨_, _, _, _, _, _, h2.nw ((Kp.refl _ _).alloc _)⟩, ((Kp.refl _ w).setCell (p := ⟨B, 4, none⟩) (Or.inr (Nat.le_refl B)) _).alloc _⟩
set_option maxRecDepth 100000 in
set_option maxHeartbeats 1000000 in
theorem owner_8 (B n : Nat) (o : Opr) (w : World) (h : LSE w B n) (hk : o.kind = 8) : Calls Tryz.prog 10 #[.pointer (some ⟨B, 0, none⟩), opV o] w (OwnPost w B n true) := by
  obtain ⟨s, t, la, lb, cv, l, h⟩ := h
  have H : Hid (LS w B n s t la lb cv l) := h
  have hl := h.lw.lt
  obtain ⟨c0, c1, c2, c3, c4, c5, c6, c7, c8, c9, fz⟩ := h.lw
  clear h
  have hne : ¬ B = w.heap.size := by omega
  unfold opV
  rw [hk]
  go_enter Tryz.func10, Tryz.ntmps10
  have h2 : Hid (∀ ob, LS (w.alloc ob) B n s t la lb cv l) := fun ob => H.out.nw ((Kp.refl _ _).alloc _)
  go_wp2_with fail
  refine (marks_none B s t la lb cv o.a _ (h2.out _).lw).mono ?_
  rintro e w1 ⟨rfl, rfl⟩
  go_wp2
  go_ret
  exact ⟨rfl, ⟨_, _, _, _, _, _, h2.out _⟩, (Kp.refl _ w).alloc _⟩
set_option maxRecDepth 100000 in
set_option maxHeartbeats 1000000 in
theorem owner_off (B n : Nat) (o : Opr) (w : World) (h : LSE w B n) (hk : o.kind < 1 ∨ 8 < o.kind) : Calls Tryz.prog 10 #[.pointer (some ⟨B, 0, none⟩), opV o] w fun e w' => e = .returned (.bool false) ∧ LSE w' B n ∧ Nw w w' := by
  obtain ⟨s, t, la, lb, cv, l, h⟩ := h
  have H : Hid (LS w B n s t la lb cv l) := h
  clear h
  have k1 : (o.kind == 1) = false := by simp; omega
  have k2 : (o.kind == 2) = false := by simp; omega
  have k3 : (o.kind == 3) = false := by simp; omega
  have k4 : (o.kind == 4) = false := by simp; omega
  have k5 : (o.kind == 5) = false := by simp; omega
  have k6 : (o.kind == 6) = false := by simp; omega
  have k7 : (o.kind == 7) = false := by simp; omega
  have k8 : (o.kind == 8) = false := by simp; omega
  clear hk
  unfold opV
  go_enter Tryz.func10, Tryz.ntmps10
  go_wp2
  go_ret
  exact ⟨rfl, ⟨_, _, _, _, _, _, H.out.nw ((Kp.refl _ _).alloc _)⟩, (Kp.refl _ w).alloc _⟩
end Go.Proofs.YtkeiameikijonaaGreat
