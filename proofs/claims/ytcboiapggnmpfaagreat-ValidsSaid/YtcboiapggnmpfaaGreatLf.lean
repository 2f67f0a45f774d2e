/- Walks: spotterlaw: the steps of a script on what the caller owns, but for three. -/
import Derived.Test.YtcboiapggnmpfaaGreatLe
import Derived.Test.YtcboiapggnmpfaaGreatQk
namespace Go.Proofs.YtcboiapggnmpfaaGreat
open Go.RowKit
set_option linter.unusedSimpArgs false
set_option linter.unusedVariables false

/-- A step of a script. -/
structure Opr where
  kind : Int
  a : Int
  b : Int
  s : ByteArray
  ins : In
  ev : Int × Int × Int × Int × Int
def opC (o : Opr) : List Value := [.int .i64 o.kind, .int .i64 o.a, .int .i64 o.b, .string o.s, .int .i64 o.ins.op, .int .i64 o.ins.a, .int .i64 o.ins.b, .int .i64 o.ins.test.left.of, .int .i64 o.ins.test.left.field, .int .i64 o.ins.test.left.num, .int .i64 o.ins.test.rel, .int .i64 o.ins.test.right.of, .int .i64 o.ins.test.right.field, .int .i64 o.ins.test.right.num, .int .i64 o.ins.test.arith, .int .i64 o.ins.test.more.of, .int .i64 o.ins.test.more.field, .int .i64 o.ins.test.more.num, .int .i64 o.ev.1, .int .i64 o.ev.2.1, .int .i64 o.ev.2.2.1, .int .i64 o.ev.2.2.2.1, .int .i64 o.ev.2.2.2.2]
def opV (o : Opr) : Value := .agg #[.int .i64 o.kind, .int .i64 o.a, .int .i64 o.b, .string o.s, .int .i64 o.ins.op, .int .i64 o.ins.a, .int .i64 o.ins.b, .int .i64 o.ins.test.left.of, .int .i64 o.ins.test.left.field, .int .i64 o.ins.test.left.num, .int .i64 o.ins.test.rel, .int .i64 o.ins.test.right.of, .int .i64 o.ins.test.right.field, .int .i64 o.ins.test.right.num, .int .i64 o.ins.test.arith, .int .i64 o.ins.test.more.of, .int .i64 o.ins.test.more.field, .int .i64 o.ins.test.more.num, .int .i64 o.ev.1, .int .i64 o.ev.2.1, .int .i64 o.ev.2.2.1, .int .i64 o.ev.2.2.2.1, .int .i64 o.ev.2.2.2.2]
/-- What a script has at hand behind n steps. -/
structure LS (X : Oth) (w : World) (B n : Nat) (s t : ByteArray) (la lb : Int) (cv : Value) (l : List In) (vs : Vs) (F : Nat → Prop) : Prop where
  lw : LW w B s t la lb cv vs
  own : w.ownsRow (B + 1) 40 14 cv l.length (codeC l)
  len : l.length ≤ n + 10000
  hs : s.size ≤ maxLen
  ht : t.size ≤ maxLen
  oth : X.P vs F n w
  above : ∀ b, F b → B < b
  apart : ∀ b, cv.ownBlock = some b → ¬ F b
def LSE (X : Oth) (w : World) (B n : Nat) : Prop := ∃ s t la lb cv l vs F, LS X w B n s t la lb cv l vs F
theorem LS.nw {X : Oth} {w w' : World} {B n : Nat} {s t : ByteArray} {la lb : Int} {cv : Value} {l : List In} {vs : Vs} {F : Nat → Prop} (h : LS X w B n s t la lb cv l vs F) (k : Nw w w') : LS X w' B n s t la lb cv l vs F :=
  ⟨h.lw.nw k, owns_kp h.own k (fun _ _ h => h), h.len, h.hs, h.ht, X.keep h.oth k (fun _ h => False.elim h), h.above, h.apart⟩
theorem LS.up {X : Oth} {w : World} {B n : Nat} {s t : ByteArray} {la lb : Int} {cv : Value} {l : List In} {vs : Vs} {F : Nat → Prop} (h : LS X w B n s t la lb cv l vs F) : LS X w B (n + 1) s t la lb cv l vs F :=
  ⟨h.lw, h.own, by have := h.len; omega, h.hs, h.ht, X.up h.oth, h.above, h.apart⟩
/-- A cell of the script's own world is set: what else it holds stays. -/
theorem LS.othB {X : Oth} {w : World} {B n : Nat} {s t : ByteArray} {la lb : Int} {cv : Value} {l : List In} {vs : Vs} {F : Nat → Prop} (h : LS X w B n s t la lb cv l vs F) (o : Nat) (u : Value) : X.P vs F n (w.setCell ⟨B, o, none⟩ u) :=
  X.keep h.oth ((Kp.refl (fun b => b = B) w).setCell (p := ⟨B, o, none⟩) (Or.inr rfl) u) (fun b e hf => by have := h.above b hf; omega)
theorem LW.set0 {w : World} {B : Nat} {s t : ByteArray} {la lb : Int} {cv : Value} {vs : Vs} (h : LW w B s t la lb cv vs) (x : ByteArray) : LW (w.setCell ⟨B, 0, none⟩ (.string x)) B x t la lb cv vs := by
  obtain ⟨c0, c1, c2, c3, c4, c5, c6, c7, c8, c9, fz⟩ := h
  constructor <;> simp [go_sem, c0, c1, c2, c3, c4, c5, c6, c7, c8, c9, fz]
theorem LW.set1 {w : World} {B : Nat} {s t : ByteArray} {la lb : Int} {cv : Value} {vs : Vs} (h : LW w B s t la lb cv vs) (x : ByteArray) : LW (w.setCell ⟨B, 1, none⟩ (.string x)) B s x la lb cv vs := by
  obtain ⟨c0, c1, c2, c3, c4, c5, c6, c7, c8, c9, fz⟩ := h
  constructor <;> simp [go_sem, c0, c1, c2, c3, c4, c5, c6, c7, c8, c9, fz]
theorem LW.set2 {w : World} {B : Nat} {s t : ByteArray} {la lb : Int} {cv : Value} {vs : Vs} (h : LW w B s t la lb cv vs) (x : Int) : LW (w.setCell ⟨B, 2, none⟩ (.int .i64 x)) B s t x lb cv vs := by
  obtain ⟨c0, c1, c2, c3, c4, c5, c6, c7, c8, c9, fz⟩ := h
  constructor <;> simp [go_sem, c0, c1, c2, c3, c4, c5, c6, c7, c8, c9, fz]
theorem LW.set3 {w : World} {B : Nat} {s t : ByteArray} {la lb : Int} {cv : Value} {vs : Vs} (h : LW w B s t la lb cv vs) (x : Int) : LW (w.setCell ⟨B, 3, none⟩ (.int .i64 x)) B s t la x cv vs := by
  obtain ⟨c0, c1, c2, c3, c4, c5, c6, c7, c8, c9, fz⟩ := h
  constructor <;> simp [go_sem, c0, c1, c2, c3, c4, c5, c6, c7, c8, c9, fz]
theorem LW.set4 {w : World} {B : Nat} {s t : ByteArray} {la lb : Int} {cv : Value} {vs : Vs} (h : LW w B s t la lb cv vs) (x : Value) : LW (w.setCell ⟨B, 4, none⟩ x) B s t la lb x vs := by
  obtain ⟨c0, c1, c2, c3, c4, c5, c6, c7, c8, c9, fz⟩ := h
  constructor <;> simp [go_sem, c0, c1, c2, c3, c4, c5, c6, c7, c8, c9, fz]
theorem owns_setB {w : World} {B n size : Nat} {e : TypeId} {v : Value} {xs : List Value} (h : w.ownsRow (B + 1) e size v n xs) (o : Nat) (u : Value) : (w.setCell ⟨B, o, none⟩ u).ownsRow (B + 1) e size v n xs :=
  ownsRow_setCell_below h (a := ⟨B, o, none⟩) (Nat.lt_succ_self B) u
abbrev KB (B : Nat) (w w' : World) : Prop := Kp (fun b => B ≤ b) w w'
def OwnPost (X : Oth) (w : World) (B n : Nat) (b : Bool) (e : Ending) (w' : World) : Prop := e = .returned (.bool b) ∧ LSE X w' B n ∧ KB B w w'
set_option maxRecDepth 100000 in
set_option maxHeartbeats 1000000 in
theorem owner_1 (X : Oth) (B n : Nat) (o : Opr) (w : World) (h : LSE X w B n) (hk : o.kind = 1) (hs : o.s.size ≤ maxLen) : Calls Tryz.prog 33 #[.pointer (some ⟨B, 0, none⟩), opV o] w (OwnPost X w B n true) := by
  obtain ⟨s, t, la, lb, cv, l, vs, F, h⟩ := h
  have H : Hid (LS X w B n s t la lb cv l vs F) := h
  have hl := h.lw.lt
  obtain ⟨c0, c1, c2, c3, c4, c5, c6, c7, c8, c9, fz⟩ := h.lw
  clear h
  have hne : ¬ B = w.heap.size := by omega
  unfold opV
  rw [hk]
  go_enter Tryz.func33, Tryz.ntmps33
  go_wp2
  go_ret
  have h2 : LS X (w.setCell ⟨B, 0, none⟩ (.string o.s)) B n o.s t la lb cv l vs F := ⟨H.out.lw.set0 o.s, owns_setB H.out.own _ _, H.out.len, hs, H.out.ht, H.out.othB _ _, H.out.above, H.out.apart⟩
  exact ⟨rfl, ⟨_, _, _, _, _, _, _, _, h2.nw ((Kp.refl _ _).alloc _)⟩, ((Kp.refl _ w).setCell (p := ⟨B, 0, none⟩) (Or.inr (Nat.le_refl B)) _).alloc _⟩
set_option maxRecDepth 100000 in
set_option maxHeartbeats 1000000 in
theorem owner_2 (X : Oth) (B n : Nat) (o : Opr) (w : World) (h : LSE X w B n) (hk : o.kind = 2) (hs : o.s.size ≤ maxLen) : Calls Tryz.prog 33 #[.pointer (some ⟨B, 0, none⟩), opV o] w (OwnPost X w B n true) := by
  obtain ⟨s, t, la, lb, cv, l, vs, F, h⟩ := h
  have H : Hid (LS X w B n s t la lb cv l vs F) := h
  have hl := h.lw.lt
  obtain ⟨c0, c1, c2, c3, c4, c5, c6, c7, c8, c9, fz⟩ := h.lw
  clear h
  have hne : ¬ B = w.heap.size := by omega
  unfold opV
  rw [hk]
  go_enter Tryz.func33, Tryz.ntmps33
  go_wp2
  go_ret
  have h2 : LS X (w.setCell ⟨B, 1, none⟩ (.string o.s)) B n s o.s la lb cv l vs F := ⟨H.out.lw.set1 o.s, owns_setB H.out.own _ _, H.out.len, H.out.hs, hs, H.out.othB _ _, H.out.above, H.out.apart⟩
  exact ⟨rfl, ⟨_, _, _, _, _, _, _, _, h2.nw ((Kp.refl _ _).alloc _)⟩, ((Kp.refl _ w).setCell (p := ⟨B, 1, none⟩) (Or.inr (Nat.le_refl B)) _).alloc _⟩
set_option maxRecDepth 100000 in
set_option maxHeartbeats 1000000 in
theorem owner_3 (X : Oth) (B n : Nat) (o : Opr) (w : World) (h : LSE X w B n) (hk : o.kind = 3) : Calls Tryz.prog 33 #[.pointer (some ⟨B, 0, none⟩), opV o] w (OwnPost X w B n true) := by
  obtain ⟨s, t, la, lb, cv, l, vs, F, h⟩ := h
  have H : Hid (LS X w B n s t la lb cv l vs F) := h
  have hl := h.lw.lt
  obtain ⟨c0, c1, c2, c3, c4, c5, c6, c7, c8, c9, fz⟩ := h.lw
  clear h
  have hne : ¬ B = w.heap.size := by omega
  unfold opV
  rw [hk]
  go_enter Tryz.func33, Tryz.ntmps33
  go_wp2
  go_ret
  have h1 : LS X (w.setCell ⟨B, 2, none⟩ (.int .i64 o.a)) B n s t o.a lb cv l vs F := ⟨H.out.lw.set2 o.a, owns_setB H.out.own _ _, H.out.len, H.out.hs, H.out.ht, H.out.othB _ _, H.out.above, H.out.apart⟩
  have h2 : LS X ((w.setCell ⟨B, 2, none⟩ (.int .i64 o.a)).setCell ⟨B, 3, none⟩ (.int .i64 o.b)) B n s t o.a o.b cv l vs F := ⟨h1.lw.set3 o.b, owns_setB h1.own _ _, h1.len, h1.hs, h1.ht, h1.othB _ _, h1.above, h1.apart⟩
  exact ⟨rfl, ⟨_, _, _, _, _, _, _, _, h2.nw ((Kp.refl _ _).alloc _)⟩, (((Kp.refl _ w).setCell (p := ⟨B, 2, none⟩) (Or.inr (Nat.le_refl B)) _).setCell (p := ⟨B, 3, none⟩) (Or.inr (Nat.le_refl B)) _).alloc _⟩
set_option maxRecDepth 100000 in
set_option maxHeartbeats 1000000 in
theorem owner_5 (X : Oth) (B n : Nat) (o : Opr) (w : World) (h : LSE X w B n) (hk : o.kind = 5) : Calls Tryz.prog 33 #[.pointer (some ⟨B, 0, none⟩), opV o] w (OwnPost X w B n true) := by
  obtain ⟨s, t, la, lb, cv, l, vs, F, h⟩ := h
  have H : Hid (LS X w B n s t la lb cv l vs F) := h
  have hl := h.lw.lt
  obtain ⟨c0, c1, c2, c3, c4, c5, c6, c7, c8, c9, fz⟩ := h.lw
  clear h
  have hne : ¬ B = w.heap.size := by omega
  unfold opV
  rw [hk]
  go_enter Tryz.func33, Tryz.ntmps33
  go_wp2
  go_ret
  have h2 : LS X (w.setCell ⟨B, 4, none⟩ (.slice none 0 0)) B n s t la lb (.slice none 0 0) [] vs F := ⟨H.out.lw.set4 _, World.ownsRow_nil _ _ _ _, by simp, H.out.hs, H.out.ht, H.out.othB _ _, H.out.above, fun b h => by simp [Value.ownBlock] at h⟩
  exact ⟨rfl, ⟨_, _, _, _, _, _, _, _, h2.nw ((Kp.refl _ _).alloc _)⟩, ((Kp.refl _ w).setCell (p := ⟨B, 4, none⟩) (Or.inr (Nat.le_refl B)) _).alloc _⟩
/-- What is asked of marks. -/
def MarksOk (X : Oth) : Prop := ∀ (B n : Nat) (s t : ByteArray) (la lb : Int) (cv : Value) (l : List In) (vs : Vs) (F : Nat → Prop) (k : Int) (w : World), LS X w B n s t la lb cv l vs F → n ≤ 740000000000 → -9223372036854775808 ≤ k → k ≤ 9223372036854775807 →
  Calls Tryz.prog 63 #[.pointer (some ⟨B, 0, none⟩), .int .i64 k] w fun e w' => e = .returned (.tuple #[]) ∧ LS X w' B n s t la lb cv l vs F ∧ KB B w w'
/-- What is asked of looks. -/
def LooksOk (X : Oth) : Prop := ∀ (B n : Nat) (s t : ByteArray) (la lb : Int) (cv : Value) (l : List In) (vs : Vs) (F : Nat → Prop) (w : World), LS X w B n s t la lb cv l vs F → n ≤ 740000000001 →
  Calls Tryz.prog 15 #[.pointer (some ⟨B, 0, none⟩)] w fun e w' => e = .returned (.bool true) ∧ Nw w w'
theorem marksOk_no : MarksOk Oth.no := by
  intro B n s t la lb cv l vs F k w h _ _ _
  obtain ⟨rfl, h0⟩ := h.oth
  refine (marks_none B s t la lb cv k w h.lw).mono ?_
  rintro e w1 ⟨rfl, rfl⟩
  exact ⟨rfl, h, Kp.refl _ _⟩
theorem looksOk_no : LooksOk Oth.no := by
  intro B n s t la lb cv l vs F w h _
  obtain ⟨rfl, h0⟩ := h.oth
  refine (looks_none B s t la lb cv w h.lw).mono ?_
  rintro e w1 ⟨rfl, rfl⟩
  exact ⟨rfl, Kp.refl _ _⟩
set_option maxRecDepth 100000 in
set_option maxHeartbeats 1000000 in
theorem owner_8 (X : Oth) (hM : MarksOk X) (B n : Nat) (o : Opr) (w : World) (h : LSE X w B n) (hk : o.kind = 8) (hn : n ≤ 740000000000) (ha0 : -9223372036854775808 ≤ o.a) (ha1 : o.a ≤ 9223372036854775807) : Calls Tryz.prog 33 #[.pointer (some ⟨B, 0, none⟩), opV o] w (OwnPost X w B n true) := by
  obtain ⟨s, t, la, lb, cv, l, vs, F, h⟩ := h
  have h2 : Hid (∀ ob, LS X (w.alloc ob) B n s t la lb cv l vs F) := fun ob => h.nw ((Kp.refl _ _).alloc _)
  clear h
  unfold opV
  rw [hk]
  go_enter Tryz.func33, Tryz.ntmps33
  go_wp2_with fail
  refine (hM B n s t la lb cv l vs F o.a _ (h2.out _) hn ha0 ha1).mono ?_
  rintro e w1 ⟨rfl, h3, k3⟩
  go_wp2
  go_ret
  exact ⟨rfl, ⟨_, _, _, _, _, _, _, _, h3⟩, ((Kp.refl _ w).alloc _).trans k3⟩
set_option maxRecDepth 100000 in
set_option maxHeartbeats 1000000 in
theorem owner_off (X : Oth) (B n : Nat) (o : Opr) (w : World) (h : LSE X w B n) (hk : o.kind < 1 ∨ 8 < o.kind) : Calls Tryz.prog 33 #[.pointer (some ⟨B, 0, none⟩), opV o] w fun e w' => e = .returned (.bool false) ∧ LSE X w' B n ∧ Nw w w' := by
  obtain ⟨s, t, la, lb, cv, l, vs, F, h⟩ := h
  have H : Hid (LS X w B n s t la lb cv l vs F) := h
  clear h
  have k1 : (o.kind == 1) = false := by simp; omega
  have k2 : (o.kind == 2) = false := by simp; omega
  have k3 : (o.kind == 3) = false := by simp; omega
  have k4 : (o.kind == 4) = false := by simp; omega
  have k5 : (o.kind == 5) = false := by simp; omega
  have k6 : (o.kind == 6) = false := by simp; omega
  have k7 : (o.kind == 7) = false := by simp; omega
  have k8 : (o.kind == 8) = false := by simp; omega
  clear hk
  unfold opV
  go_enter Tryz.func33, Tryz.ntmps33
  go_wp2
  go_ret
  exact ⟨rfl, ⟨_, _, _, _, _, _, _, _, H.out.nw ((Kp.refl _ _).alloc _)⟩, (Kp.refl _ w).alloc _⟩
end Go.Proofs.YtcboiapggnmpfaaGreat
