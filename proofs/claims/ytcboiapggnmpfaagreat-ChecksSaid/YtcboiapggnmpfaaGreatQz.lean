/- Walks: spotterlaw: the steps of a script on what the caller owns, but for three. -/
import Derived.Test.YtcboiapggnmpfaaGreatQy
import Derived.Test.YtcboiapggnmpfaaGreatQk
import Derived.Deep.RegionLaw
import Derived.Deep.DrawnRows
import Derived.ProofKit
import Derived.ChangeSlices
import Derived.SizedLaws
import Derived.Deep.Slices
import Derived.OpenShut
namespace Go.Proofs.YtcboiapggnmpfaaGreat
open Go.RowKit
set_option linter.unusedSimpArgs false
set_option linter.unusedVariables false

/-- A step of a script. -/
structure Opr where
  kind : Int
  a : Int
  b : Int
  s : ByteArray
  ins : In
  ev : Int × Int × Int × Int × Int
def opC (o : Opr) : List Value := [.int .i64 o.kind, .int .i64 o.a, .int .i64 o.b, .string o.s, .int .i64 o.ins.op, .int .i64 o.ins.a, .int .i64 o.ins.b, .int .i64 o.ins.test.left.of, .int .i64 o.ins.test.left.field, .int .i64 o.ins.test.left.num, .int .i64 o.ins.test.rel, .int .i64 o.ins.test.right.of, .int .i64 o.ins.test.right.field, .int .i64 o.ins.test.right.num, .int .i64 o.ins.test.arith, .int .i64 o.ins.test.more.of, .int .i64 o.ins.test.more.field, .int .i64 o.ins.test.more.num, .int .i64 o.ev.1, .int .i64 o.ev.2.1, .int .i64 o.ev.2.2.1, .int .i64 o.ev.2.2.2.1, .int .i64 o.ev.2.2.2.2]
def opV (o : Opr) : Value := .agg #[.int .i64 o.kind, .int .i64 o.a, .int .i64 o.b, .string o.s, .int .i64 o.ins.op, .int .i64 o.ins.a, .int .i64 o.ins.b, .int .i64 o.ins.test.left.of, .int .i64 o.ins.test.left.field, .int .i64 o.ins.test.left.num, .int .i64 o.ins.test.rel, .int .i64 o.ins.test.right.of, .int .i64 o.ins.test.right.field, .int .i64 o.ins.test.right.num, .int .i64 o.ins.test.arith, .int .i64 o.ins.test.more.of, .int .i64 o.ins.test.more.field, .int .i64 o.ins.test.more.num, .int .i64 o.ev.1, .int .i64 o.ev.2.1, .int .i64 o.ev.2.2.1, .int .i64 o.ev.2.2.2.1, .int .i64 o.ev.2.2.2.2]
/-- What a script has at hand behind n steps. -/
structure LS (X : Oth) (w : World) (B n : Nat) (s t : ByteArray) (la lb : Int) (cv : Value) (l : List In) (vs : Vs) (F : Nat → Prop) : Prop where
  lw : LW w B s t la lb cv vs
  own : w.ownsRow (B + 1) 40 14 cv l.length (codeC l)
  len : l.length ≤ n + 10000
  hs : s.size ≤ maxLen
  ht : t.size ≤ maxLen
  oth : X.P vs F n w
  above : ∀ b, F b → B < b
  apart : ∀ b, cv.ownBlock = some b → ¬ F b
def LSE (X : Oth) (w : World) (B n : Nat) : Prop := ∃ s t la lb cv l vs F, LS X w B n s t la lb cv l vs F
theorem LS.nw {X : Oth} {w w' : World} {B n : Nat} {s t : ByteArray} {la lb : Int} {cv : Value} {l : List In} {vs : Vs} {F : Nat → Prop} (h : LS X w B n s t la lb cv l vs F) (k : Nw w w') : LS X w' B n s t la lb cv l vs F :=
  ⟨h.lw.nw k, owns_kp h.own k (fun _ _ h => h), h.len, h.hs, h.ht, X.keep h.oth k (fun _ h => False.elim h), h.above, h.apart⟩
theorem LS.up {X : Oth} {w : World} {B n : Nat} {s t : ByteArray} {la lb : Int} {cv : Value} {l : List In} {vs : Vs} {F : Nat → Prop} (h : LS X w B n s t la lb cv l vs F) : LS X w B (n + 1) s t la lb cv l vs F :=
  ⟨h.lw, h.own, by have := h.len; omega, h.hs, h.ht, X.up h.oth, h.above, h.apart⟩
/-- A cell of the script's own world is set: what else it holds stays. -/
theorem LS.othB {X : Oth} {w : World} {B n : Nat} {s t : ByteArray} {la lb : Int} {cv : Value} {l : List In} {vs : Vs} {F : Nat → Prop} (h : LS X w B n s t la lb cv l vs F) (o : Nat) (u : Value) : X.P vs F n (w.setCell ⟨B, o, none⟩ u) :=
  X.keep h.oth ((Kp.refl (fun b => b = B) w).setCell (p := ⟨B, o, none⟩) (Or.inr rfl) u) (fun b e hf => by have := h.above b hf; omega)
theorem LW.set0 {w : World} {B : Nat} {s t : ByteArray} {la lb : Int} {cv : Value} {vs : Vs} (h : LW w B s t la lb cv vs) (x : ByteArray) : LW (w.setCell ⟨B, 0, none⟩ (.string x)) B x t la lb cv vs := by
  obtain ⟨c0, c1, c2, c3, c4, c5, c6, c7, c8, c9, fz⟩ := h
  constructor <;> simp [go_sem, c0, c1, c2, c3, c4, c5, c6, c7, c8, c9, fz]
theorem LW.set1 {w : World} {B : Nat} {s t : ByteArray} {la lb : Int} {cv : Value} {vs : Vs} (h : LW w B s t la lb cv vs) (x : ByteArray) : LW (w.setCell ⟨B, 1, none⟩ (.string x)) B s x la lb cv vs := by
  obtain ⟨c0, c1, c2, c3, c4, c5, c6, c7, c8, c9, fz⟩ := h
  constructor <;> simp [go_sem, c0, c1, c2, c3, c4, c5, c6, c7, c8, c9, fz]
theorem LW.set2 {w : World} {B : Nat} {s t : ByteArray} {la lb : Int} {cv : Value} {vs : Vs} (h : LW w B s t la lb cv vs) (x : Int) : LW (w.setCell ⟨B, 2, none⟩ (.int .i64 x)) B s t x lb cv vs := by
  obtain ⟨c0, c1, c2, c3, c4, c5, c6, c7, c8, c9, fz⟩ := h
  constructor <;> simp [go_sem, c0, c1, c2, c3, c4, c5, c6, c7, c8, c9, fz]
theorem LW.set3 {w : World} {B : Nat} {s t : ByteArray} {la lb : Int} {cv : Value} {vs : Vs} (h : LW w B s t la lb cv vs) (x : Int) : LW (w.setCell ⟨B, 3, none⟩ (.int .i64 x)) B s t la x cv vs := by
  obtain ⟨c0, c1, c2, c3, c4, c5, c6, c7, c8, c9, fz⟩ := h
  constructor <;> simp [go_sem, c0, c1, c2, c3, c4, c5, c6, c7, c8, c9, fz]
theorem LW.set4 {w : World} {B : Nat} {s t : ByteArray} {la lb : Int} {cv : Value} {vs : Vs} (h : LW w B s t la lb cv vs) (x : Value) : LW (w.setCell ⟨B, 4, none⟩ x) B s t la lb x vs := by
  obtain ⟨c0, c1, c2, c3, c4, c5, c6, c7, c8, c9, fz⟩ := h
  constructor <;> simp [go_sem, c0, c1, c2, c3, c4, c5, c6, c7, c8, c9, fz]
theorem owns_setB {w : World} {B n size : Nat} {e : TypeId} {v : Value} {xs : List Value} (h : w.ownsRow (B + 1) e size v n xs) (o : Nat) (u : Value) : (w.setCell ⟨B, o, none⟩ u).ownsRow (B + 1) e size v n xs :=
  ownsRow_setCell_below h (a := ⟨B, o, none⟩) (Nat.lt_succ_self B) u
abbrev KB (B : Nat) (w w' : World) : Prop := Kp (fun b => B ≤ b) w w'
def OwnPost (X : Oth) (w : World) (B n : Nat) (b : Bool) (e : Ending) (w' : World) : Prop := e = .returned (.bool b) ∧ LSE X w' B n ∧ KB B w w'
set_option maxRecDepth 100000 in
set_option maxHeartbeats 1000000 in
theorem owner_1 (X : Oth) (B n : Nat) (o : Opr) (w : World) (h : LSE X w B n) (hk : o.kind = 1) (hs : o.s.size ≤ maxLen) : Calls Tryz.prog 33 #[.pointer (some ⟨B, 0, none⟩), opV o] w (OwnPost X w B n true) := by
  obtain ⟨s, t, la, lb, cv, l, vs, F, h⟩ := h
  have H : Hid (LS X w B n s t la lb cv l vs F) := h
  have hl := h.lw.lt
  obtain ⟨c0, c1, c2, c3, c4, c5, c6, c7, c8, c9, fz⟩ := h.lw
  clear h
  have hne : ¬ B = w.heap.size := by omega
  unfold opV
  rw [hk]
  go_enter Tryz.func33, Tryz.ntmps33
  go_wp2
  go_ret
  have h2 : LS X (w.setCell ⟨B, 0, none⟩ (.string o.s)) B n o.s t la lb cv l vs F := ⟨H.out.lw.set0 o.s, owns_setB H.out.own _ _, H.out.len, hs, H.out.ht, H.out.othB _ _, H.out.above, H.out.apart⟩
  exact ⟨rfl, ⟨_, _, _, _, _, _, _, _, h2.nw ((Kp.refl _ _).alloc _)⟩, ((Kp.refl _ w).setCell (p := ⟨B, 0, none⟩) (Or.inr (Nat.le_refl B)) _).alloc _⟩
set_option maxRecDepth 100000 in
set_option maxHeartbeats 1000000 in
theorem owner_2 (X : Oth) (B n : Nat) (o : Opr) (w : World) (h : LSE X w B n) (hk : o.kind = 2) (hs : o.s.size ≤ maxLen) : Calls Tryz.prog 33 #[.pointer (some ⟨B, 0, none⟩), opV o] w (OwnPost X w B n true) := by
  obtain ⟨s, t, la, lb, cv, l, vs, F, h⟩ := h
  have H : Hid (LS X w B n s t la lb cv l vs F) := h
  have hl := h.lw.lt
  obtain ⟨c0, c1, c2, c3, c4, c5, c6, c7, c8, c9, fz⟩ := h.lw
  clear h
  have hne : ¬ B = w.heap.size := by omega
  unfold opV
  rw [hk]
  go_enter Tryz.func33, Tryz.ntmps33
  go_wp2
  go_ret
  have h2 : LS X (w.setCell ⟨B, 1, none⟩ (.string o.s)) B n s o.s la lb cv l vs F := ⟨H.out.lw.set1 o.s, owns_setB H.out.own _ _, H.out.len, H.out.hs, hs, H.out.othB _ _, H.out.above, H.out.apart⟩
  exact ⟨rfl, ⟨_, _, _, _, _, _, _, _, h2.nw ((Kp.refl _ _).alloc _)⟩, ((Kp.refl _ w).setCell (p := ⟨B, 1, none⟩) (Or.inr (Nat.le_refl B)) _).alloc _⟩
set_option maxRecDepth 100000 in
set_option maxHeartbeats 1000000 in
theorem owner_3 (X : Oth) (B n : Nat) (o : Opr) (w : World) (h : LSE X w B n) (hk : o.kind = 3) : Calls Tryz.prog 33 #[.pointer (some ⟨B, 0, none⟩), opV o] w (OwnPost X w B n true) := by
  obtain ⟨s, t, la, lb, cv, l, vs, F, h⟩ := h
  have H : Hid (LS X w B n s t la lb cv l vs F) := h
  have hl := h.lw.lt
  obtain ⟨c0, c1, c2, c3, c4, c5, c6, c7, c8, c9, fz⟩ := h.lw
  clear h
  have hne : ¬ B = w.heap.size := by omega
  unfold opV
  rw [hk]
  go_enter Tryz.func33, Tryz.ntmps33
  go_wp2
  go_ret
  have h1 : LS X (w.setCell ⟨B, 2, none⟩ (.int .i64 o.a)) B n s t o.a lb cv l vs F := ⟨H.out.lw.set2 o.a, owns_setB H.out.own _ _, H.out.len, H.out.hs, H.out.ht, H.out.othB _ _, H.out.above, H.out.apart⟩
  have h2 : LS X ((w.setCell ⟨B, 2, none⟩ (.int .i64 o.a)).setCell ⟨B, 3, none⟩ (.int .i64 o.b)) B n s t o.a o.b cv l vs F := ⟨h1.lw.set3 o.b, owns_setB h1.own _ _, h1.len, h1.hs, h1.ht, h1.othB _ _, h1.above, h1.apart⟩
  exact ⟨rfl, ⟨_, _, _, _, _, _, _, _, h2.nw ((Kp.refl _ _).alloc _)⟩, (((Kp.refl _ w).setCell (p := ⟨B, 2, none⟩) (Or.inr (Nat.le_refl B)) _).setCell (p := ⟨B, 3, none⟩) (Or.inr (Nat.le_refl B)) _).alloc _⟩
set_option maxRecDepth 100000 in
set_option maxHeartbeats 1000000 in
theorem owner_5 (X : Oth) (B n : Nat) (o : Opr) (w : World) (h : LSE X w B n) (hk : o.kind = 5) : Calls Tryz.prog 33 #[.pointer (some ⟨B, 0, none⟩), opV o] w (OwnPost X w B n true) := by
  obtain ⟨s, t, la, lb, cv, l, vs, F, h⟩ := h
  have H : Hid (LS X w B n s t la lb cv l vs F) := h
  have hl := h.lw.lt
  obtain ⟨c0, c1, c2, c3, c4, c5, c6, c7, c8, c9, fz⟩ := h.lw
  clear h
  have hne : ¬ B = w.heap.size := by omega
  unfold opV
  rw [hk]
  go_enter Tryz.func33, Tryz.ntmps33
  go_wp2
  go_ret
  have h2 : LS X (w.setCell ⟨B, 4, none⟩ (.slice none 0 0)) B n s t la lb (.slice none 0 0) [] vs F := ⟨H.out.lw.set4 _, World.ownsRow_nil _ _ _ _, by simp, H.out.hs, H.out.ht, H.out.othB _ _, H.out.above, fun b h => by simp [Value.ownBlock] at h⟩
  exact ⟨rfl, ⟨_, _, _, _, _, _, _, _, h2.nw ((Kp.refl _ _).alloc _)⟩, ((Kp.refl _ w).setCell (p := ⟨B, 4, none⟩) (Or.inr (Nat.le_refl B)) _).alloc _⟩
/-- What is asked of marks. -/
def MarksOk (X : Oth) : Prop := ∀ (B n : Nat) (s t : ByteArray) (la lb : Int) (cv : Value) (l : List In) (vs : Vs) (F : Nat → Prop) (k : Int) (w : World), LS X w B n s t la lb cv l vs F → n ≤ 740000000000 → -9223372036854775808 ≤ k → k ≤ 9223372036854775807 →
  Calls Tryz.prog 63 #[.pointer (some ⟨B, 0, none⟩), .int .i64 k] w fun e w' => e = .returned (.tuple #[]) ∧ LS X w' B n s t la lb cv l vs F ∧ KB B w w'
/-- What is asked of looks. -/
def LooksOk (X : Oth) : Prop := ∀ (B n : Nat) (s t : ByteArray) (la lb : Int) (cv : Value) (l : List In) (vs : Vs) (F : Nat → Prop) (w : World), LS X w B n s t la lb cv l vs F → n ≤ 740000000001 →
  Calls Tryz.prog 15 #[.pointer (some ⟨B, 0, none⟩)] w fun e w' => e = .returned (.bool true) ∧ Nw w w'
theorem marksOk_no : MarksOk Oth.no := by
  intro B n s t la lb cv l vs F k w h _ _ _
  obtain ⟨rfl, h0⟩ := h.oth
  refine (marks_none B s t la lb cv k w h.lw).mono ?_
  rintro e w1 ⟨rfl, rfl⟩
  exact ⟨rfl, h, Kp.refl _ _⟩
theorem looksOk_no : LooksOk Oth.no := by
  intro B n s t la lb cv l vs F w h _
  obtain ⟨rfl, h0⟩ := h.oth
  refine (looks_none B s t la lb cv w h.lw).mono ?_
  rintro e w1 ⟨rfl, rfl⟩
  exact ⟨rfl, Kp.refl _ _⟩
set_option maxRecDepth 100000 in
set_option maxHeartbeats 1000000 in
theorem owner_8 (X : Oth) (hM : MarksOk X) (B n : Nat) (o : Opr) (w : World) (h : LSE X w B n) (hk : o.kind = 8) (hn : n ≤ 740000000000) (ha0 : -9223372036854775808 ≤ o.a) (ha1 : o.a ≤ 9223372036854775807) : Calls Tryz.prog 33 #[.pointer (some ⟨B, 0, none⟩), opV o] w (OwnPost X w B n true) := by
  obtain ⟨s, t, la, lb, cv, l, vs, F, h⟩ := h
  have h2 : Hid (∀ ob, LS X (w.alloc ob) B n s t la lb cv l vs F) := fun ob => h.nw ((Kp.refl _ _).alloc _)
  clear h
  unfold opV
  rw [hk]
  go_enter Tryz.func33, Tryz.ntmps33
  go_wp2_with fail
  refine (hM B n s t la lb cv l vs F o.a _ (h2.out _) hn ha0 ha1).mono ?_
  rintro e w1 ⟨rfl, h3, k3⟩
  go_wp2
  go_ret
  exact ⟨rfl, ⟨_, _, _, _, _, _, _, _, h3⟩, ((Kp.refl _ w).alloc _).trans k3⟩
set_option maxRecDepth 100000 in
set_option maxHeartbeats 1000000 in
theorem owner_off (X : Oth) (B n : Nat) (o : Opr) (w : World) (h : LSE X w B n) (hk : o.kind < 1 ∨ 8 < o.kind) : Calls Tryz.prog 33 #[.pointer (some ⟨B, 0, none⟩), opV o] w fun e w' => e = .returned (.bool false) ∧ LSE X w' B n ∧ Nw w w' := by
  obtain ⟨s, t, la, lb, cv, l, vs, F, h⟩ := h
  have H : Hid (LS X w B n s t la lb cv l vs F) := h
  clear h
  have k1 : (o.kind == 1) = false := by simp; omega
  have k2 : (o.kind == 2) = false := by simp; omega
  have k3 : (o.kind == 3) = false := by simp; omega
  have k4 : (o.kind == 4) = false := by simp; omega
  have k5 : (o.kind == 5) = false := by simp; omega
  have k6 : (o.kind == 6) = false := by simp; omega
  have k7 : (o.kind == 7) = false := by simp; omega
  have k8 : (o.kind == 8) = false := by simp; omega
  clear hk
  unfold opV
  go_enter Tryz.func33, Tryz.ntmps33
  go_wp2
  go_ret
  exact ⟨rfl, ⟨_, _, _, _, _, _, _, _, H.out.nw ((Kp.refl _ _).alloc _)⟩, (Kp.refl _ w).alloc _⟩
end Go.Proofs.YtcboiapggnmpfaaGreat

namespace Go.Proofs.YtcboiapggnmpfaaGreat
open Go.RowKit
set_option linter.unusedSimpArgs false
set_option linter.unusedVariables false

theorem news_two' (w2 : World) (o : Obj) (cs : Array Value) (t : TypeId) : ∀ j u, cs.toList[j]? = some u → ((w2.alloc o).alloc (.cells cs t)).cell? ((⟨w2.heap.size + 1, 0, none⟩ : Addr).add j) = some u :=
  World.news_of_block (by have := heap_alloc_new (w2.alloc o) (.cells cs t); simpa using this)
set_option maxRecDepth 100000 in
set_option maxHeartbeats 1000000 in
theorem owner_4 (X : Oth) (B n : Nat) (o : Opr) (w : World) (h : LSE X w B n) (hk : o.kind = 4) (hn : n ≤ 740000000000) : Calls Tryz.prog 33 #[.pointer (some ⟨B, 0, none⟩), opV o] w (OwnPost X w B (n + 1) true) := by
  obtain ⟨s, t, la, lb, cv, l, vs, F, h⟩ := h
  have H : Hid (LS X w B n s t la lb cv l vs F) := h
  have hl := h.lw.lt
  have hown := h.own
  have hlen := h.len
  obtain ⟨c0, c1, c2, c3, c4, c5, c6, c7, c8, c9, fz⟩ := h.lw
  clear h
  have hne : ¬ B = w.heap.size := by omega
  have hne' : ¬ w.heap.size = B := by omega
  obtain ⟨i0, hi0, hz0, hz1, hz2⟩ := info_parts Tryz.info40
  have hge : Hid (∀ b, cv.ownBlock = some b → B + 1 ≤ b ∧ b < w.heap.size) := by
    intro b hb
    exact hown.lt b hb
  have hBn : ¬ some B = cv.ownBlock := by intro e; have := hge.out B e.symm; omega
  unfold opV
  rw [hk]
  clear c0 c1 c2 c3 c5 c6 c7 c8 c9
  go_enter Tryz.func33, Tryz.ntmps33
  go_wp2
  go_region_law
    ((refine step_append_lies _ (by rfl) _ _ _ (by rfl) (B + 1) 40 i0 (.agg #[.int .i64 0, .int .i64 0, .int .i64 0, .int .i64 0, .int .i64 0, .int .i64 0, .int .i64 0, .int .i64 0, .int .i64 0, .int .i64 0, .int .i64 0, .int .i64 0, .int .i64 0, .int .i64 0]) 14 112 Tryz.underlying28 hi0 hz0 hz1 hz2 rfl (by omega) cv l.length (codeC l) (by rfl) (by exact (hown.alloc _).alloc _) ⟨w.heap.size + 1, 0, none⟩ 1 1 (insC o.ins) (by rfl) (by rfl) (by exact news_two' w _ _ _) (codeC_oneI o.ins) (by omega) (by unfold maxLen; omega) (by omega) (by simp; omega) (w.heap.size + 2) (by simp) ?_; intro g cap w1 hown1 hgrow hat hlt; have kR : ∀ o, w1.cell? ⟨B, o, none⟩ = w.cell? ⟨B, o, none⟩ := (fun o => (hgrow.cell_far _ (by simp; omega) hBn).trans (by simp [go_sem, hl, World.cell?_alloc_past])); have kz : ∀ o, w1.frozen? ⟨B, o, none⟩ = w.frozen? ⟨B, o, none⟩ := (fun o => (hgrow.frozen_far _ (by simp; omega) hBn).trans (by simp [go_sem, hl, World.frozen?_alloc_past]))))
  all_goals
    have W1 : Hid (LW w1 B s t la lb cv vs) := H.out.lw.sm ⟨kR, kz⟩
    have K1 : Hid (KB B w w1) := ((((Kp.refl _ w).alloc _).alloc _).drew).grown hgrow (fun b hb => Or.inr (by have := hge.out b hb; omega))
    have ko : Kp (fun b => cv.ownBlock = some b) w w1 := ((((Kp.refl _ w).alloc _).alloc _).drew).grown hgrow (fun b hb => Or.inr hb)
    have X1 : Hid (X.P vs F (n + 1) w1) := X.up (X.keep H.out.oth ko (fun b hb => H.out.apart b hb))
    have A1 : Hid (¬ F g) := by
      intro hf
      rcases hat with e | e
      · exact H.out.apart g e hf
      · have := X.lt H.out.oth hf; omega
    clear ko
    have O1 : Hid (w1.ownsRow (B + 1) 40 14 (.slice (some ⟨g, 0, none⟩) (l.length + 1) cap) (l ++ [o.ins]).length (codeC (l ++ [o.ins]))) := by
      have e1 : (l ++ [o.ins]).length = l.length + 1 := by simp
      have e2 : codeC (l ++ [o.ins]) = codeC l ++ insC o.ins := by rw [codeC_append]; simp [codeC]
      show w1.ownsRow _ _ _ _ _ _
      rw [e1, e2]
      exact hown1
    clear hown1 hgrow hat
    go_wp2
    go_ret
    have h2 : LS X (w1.setCell ⟨B, 4, none⟩ (.slice (some ⟨g, 0, none⟩) (l.length + 1) cap)) B (n + 1) s t la lb (.slice (some ⟨g, 0, none⟩) (l.length + 1) cap) (l ++ [o.ins]) vs F := ⟨W1.out.set4 _, owns_setB O1.out _ _, by simp; omega, H.out.hs, H.out.ht, X.keep X1.out ((Kp.refl (fun b => b = B) w1).setCell (p := ⟨B, 4, none⟩) (Or.inr rfl) _) (fun b e hf => by have := H.out.above b hf; omega), H.out.above, fun b hb => by simp [Value.ownBlock] at hb; subst hb; exact A1.out⟩
    exact ⟨rfl, ⟨_, _, _, _, _, _, _, _, h2⟩, K1.out.setCell (p := ⟨B, 4, none⟩) (Or.inr (Nat.le_refl B)) _⟩
/-- One instruction of a row of one's own is written over. -/
theorem owns_put {w : World} {base g cap : Nat} {a b : List In} {y x : In} (h : w.ownsRow base 40 14 (.slice (some ⟨g, 0, none⟩) (a ++ y :: b).length cap) (a ++ y :: b).length (codeC (a ++ y :: b))) :
    (w.setCells g (a.length * 14) (insC x)).ownsRow base 40 14 (.slice (some ⟨g, 0, none⟩) (a ++ x :: b).length cap) (a ++ x :: b).length (codeC (a ++ x :: b)) := by
  obtain ⟨h1, h2⟩ := h
  rcases h2 with ⟨h2, _⟩ | ⟨g', cap', cur, h2, hb, h3, h4, h5, h6, h7⟩
  · simp at h2
  · simp only [Value.slice.injEq, Option.some.injEq, Addr.mk.injEq, true_and, and_true] at h2
    obtain ⟨rfl, rfl⟩ := h2
    have ec : ∀ z : In, codeC (a ++ z :: b) = codeC a ++ (insC z ++ codeC b) := by intro z; rw [codeC_append]; simp [codeC]
    have hlz : ∀ z : In, (a ++ z :: b).length = a.length + b.length + 1 := by intro z; simp; omega
    have hcur : cur.toList = codeC (a ++ y :: b) ++ cur.toList.drop ((a ++ y :: b).length * 14) := by rw [← h7, List.take_append_drop]
    generalize hD : cur.toList.drop ((a ++ y :: b).length * 14) = D at hcur
    rw [ec, List.append_assoc, List.append_assoc] at hcur
    have hr : Row w g 40 (codeC a ++ (insC y ++ (codeC b ++ D))) := by
      rw [Row, h3, ← hcur]
    have hr2 := Row.setCells (insC x) w (a.length * 14) (codeC a) (insC y) _ hr (codeC_length a) rfl
    have hsz : cur.size = (codeC a ++ (insC y ++ (codeC b ++ D))).length := by rw [← hcur]; simp
    refine ⟨codeC_length _, Or.inr ⟨g, cap, _, rfl, hb, hr2, by rw [hlz] at h4 ⊢; exact h4, h5, ?_, ?_⟩⟩
    · rw [← h6, hsz]; simp [insC]
    · rw [ec]
      have e : (codeC a ++ (insC x ++ (codeC b ++ D))).toArray.toList = (codeC a ++ (insC x ++ codeC b)) ++ D := by simp
      rw [e, List.take_append_of_le_length, List.take_of_length_le]
      · rw [← ec, codeC_length]; exact Nat.le_refl _
      · rw [← ec, codeC_length]; exact Nat.le_refl _
theorem split_at {l : List In} {k : Nat} (h : k < l.length) : ∃ a y b, l = a ++ y :: b ∧ a.length = k :=
  ⟨l.take k, l[k], l.drop (k + 1), by rw [List.getElem_cons_drop, List.take_append_drop], by simp; omega⟩
end Go.Proofs.YtcboiapggnmpfaaGreat

namespace Go.Proofs.YtcboiapggnmpfaaGreat
open Go.RowKit
set_option linter.unusedSimpArgs false
set_option linter.unusedVariables false

/-- What is asked of the document's Compile here: that it ends, writes nothing that was there, and answers with OK a list of its own. -/
def CompileOk : Prop := ∀ (s t : ByteArray) (w : World), s.size ≤ maxLen → t.size ≤ maxLen →
  Calls Tryz.prog 62 #[.string s, .string t] w fun e w' => Nw w w' ∧ ∃ v f l, e = .returned (.tuple #[v, .int .i64 f]) ∧ (f = 0 → w'.ownsRow w.heap.size 40 14 v l.length (codeC l) ∧ l.length ≤ 10000)
theorem owns_len2 {w : World} {base n size : Nat} {e : TypeId} {v : Value} {xs : List Value} (h : w.ownsRow base e size v n xs) : ∃ p c, v = .slice p n c := by
  rcases h.2 with ⟨h2, h3⟩ | ⟨g', cap', cur, h2, _⟩
  · exact ⟨none, 0, by rw [h2, h3]⟩
  · exact ⟨_, _, h2⟩
theorem owns_base {w : World} {base base' n size : Nat} {e : TypeId} {v : Value} {xs : List Value} (h : w.ownsRow base e size v n xs) (hb : base' ≤ base) : w.ownsRow base' e size v n xs := by
  refine ⟨h.1, ?_⟩
  rcases h.2 with hn | ⟨g, cap, cur, rfl, h1, rest⟩
  · exact .inl hn
  · exact .inr ⟨g, cap, cur, rfl, Nat.le_trans hb h1, rest⟩
set_option maxRecDepth 100000 in
set_option maxHeartbeats 1000000 in
theorem owner_6 (hC : CompileOk) (X : Oth) (B n : Nat) (o : Opr) (w : World) (h : LSE X w B n) (hk : o.kind = 6) : Calls Tryz.prog 33 #[.pointer (some ⟨B, 0, none⟩), opV o] w (OwnPost X w B n true) := by
  obtain ⟨s, t, la, lb, cv, l, vs, F, h⟩ := h
  have H : Hid (LS X w B n s t la lb cv l vs F) := h
  have hl := h.lw.lt
  have hne : ¬ B = w.heap.size := by omega
  have hne' : ¬ w.heap.size = B := by omega
  have c0 := h.lw.c0
  have c1 := h.lw.c1
  have c4 := h.lw.c4
  have fz := h.lw.fz
  clear h
  unfold opV
  rw [hk]
  go_enter Tryz.func33, Tryz.ntmps33
  go_wp2
  go_region_with ((go_at_call 62; refine (hC s t _ H.out.hs H.out.ht).mono ?_; rintro e1 w1 ⟨k1, v, f, l2, rfl, hf⟩))
  all_goals
    have K1 : Hid (Nw w w1) := (((Kp.refl _ w).alloc _).drew).trans k1
    have hsz : w.heap.size + 1 ≤ w1.heap.size := by have := k1.size; simp at this; omega
    have L1 : Hid (LS X w1 B n s t la lb cv l vs F) := H.out.nw K1.out
    have HF : Hid (f = 0 → w1.ownsRow (B + 1) 40 14 v l2.length (codeC l2) ∧ l2.length ≤ 10000 ∧ ∀ b, v.ownBlock = some b → ¬ F b) := by
      intro e
      obtain ⟨h1, h2⟩ := hf e
      refine ⟨owns_base h1 (by simp; omega), h2, fun b hb hf => ?_⟩
      have h5 := (h1.lt b hb).1
      have h6 := X.lt H.out.oth hf
      simp at h5
      omega
    have d4 := L1.out.lw.c4
    have dz := L1.out.lw.fz
    have hl1 := L1.out.lw.lt
    clear hf k1 c0 c1 c4 fz
    by_cases h0 : f = 0
    · subst h0
      obtain ⟨h1, h2, h4⟩ := HF.out rfl
      obtain ⟨p, c, rfl⟩ := owns_len2 h1
      have h3 : Hid (LS X (w1.setCell ⟨B, 4, none⟩ (.slice p l2.length c)) B n s t la lb (.slice p l2.length c) l2 vs F) := ⟨L1.out.lw.set4 _, owns_setB h1 _ _, by omega, L1.out.hs, L1.out.ht, L1.out.othB _ _, L1.out.above, h4⟩
      clear h1 h4 HF
      go_wp2
      go_ret
      exact ⟨rfl, ⟨_, _, _, _, _, _, _, _, h3.out⟩, (K1.out.mono (fun _ _ h => False.elim h)).setCell (p := ⟨B, 4, none⟩) (Or.inr (Nat.le_refl B)) _⟩
    · have h0' : (f == 0) = false := by simp [h0]
      go_wp2
      go_ret
      exact ⟨rfl, ⟨_, _, _, _, _, _, _, _, L1.out⟩, K1.out.mono (fun _ _ h => False.elim h)⟩
end Go.Proofs.YtcboiapggnmpfaaGreat

namespace Go.Proofs.YtcboiapggnmpfaaGreat
open Go.RowKit
set_option linter.unusedSimpArgs false
set_option linter.unusedVariables false

theorem owns_len {w : World} {base n size : Nat} {e : TypeId} {v : Value} {xs : List Value} (h : w.ownsRow base e size v n xs) : ∃ p c, v = .slice p n c := by
  rcases h.2 with ⟨h2, h3⟩ | ⟨g', cap', cur, h2, _⟩
  · exact ⟨none, 0, by rw [h2, h3]⟩
  · exact ⟨_, _, h2⟩
theorem owns_froz {w : World} {base g n cap size : Nat} {e : TypeId} {xs : List Value} (h : w.ownsRow base e size (.slice (some ⟨g, 0, none⟩) n cap) n xs) (o : Nat) : w.frozen? ⟨g, o, none⟩ = false := by
  obtain ⟨h1, h2⟩ := h
  rcases h2 with ⟨h2, _⟩ | ⟨g', cap', cur, h2, hb, h3, h4, h5, h6, h7⟩
  · simp at h2
  · simp only [Value.slice.injEq, Option.some.injEq, Addr.mk.injEq, true_and, and_true] at h2
    obtain ⟨rfl, rfl⟩ := h2
    exact frozen_of_row w g _ _ e h3
theorem owns_ins {w : World} {base g cap : Nat} {e : TypeId} {l : List In} (h : w.ownsRow base e 14 (.slice (some ⟨g, 0, none⟩) l.length cap) l.length (codeC l)) {k : Nat} {x : In} (hk : l[k]? = some x) : InsAt w g (k * 14) x := by
  intro j v hv
  have hj : j < 14 := (List.getElem?_eq_some_iff.1 hv).1
  exact owns_cell h (k * 14 + j) (by rw [codeC_get l k j x hk hj]; exact hv)
set_option maxRecDepth 100000 in
set_option maxHeartbeats 1000000 in
theorem owner_7 (X : Oth) (B n : Nat) (o : Opr) (w : World) (h : LSE X w B n) (hk : o.kind = 7) (hn : n ≤ 740000000000) (ha0 : -9223372036854775808 ≤ o.a) (ha1 : o.a ≤ 9223372036854775807) : Calls Tryz.prog 33 #[.pointer (some ⟨B, 0, none⟩), opV o] w (OwnPost X w B n true) := by
  obtain ⟨s, t, la, lb, cv, l, vs, F, h⟩ := h
  have H : Hid (LS X w B n s t la lb cv l vs F) := h
  have hl := h.lw.lt
  have hown := h.own
  have hlen := h.len
  have hne : ¬ B = w.heap.size := by omega
  have hne' : ¬ w.heap.size = B := by omega
  have c4 := h.lw.c4
  have fz := h.lw.fz
  clear h
  unfold opV
  rw [hk]
  by_cases h0 : l.length = 0
  · obtain ⟨p, c, rfl⟩ := owns_len hown
    rw [h0] at c4
    go_enter Tryz.func33, Tryz.ntmps33
    go_wp2
    go_ret
    exact ⟨rfl, ⟨_, _, _, _, _, _, _, _, H.out.nw ((Kp.refl _ _).alloc _)⟩, (Kp.refl _ w).alloc _⟩
  · obtain ⟨g, cap, rfl, hg, hg2⟩ := hown.form (by omega)
    obtain ⟨i0, hi0, hz0, hz1, hz2⟩ := info_parts Tryz.info40
    have hgB : ¬ g = B := by omega
    have hgB' : ¬ B = g := by omega
    have hgw : ¬ g = w.heap.size := by omega
    have hgw' : ¬ w.heap.size = g := by omega
    go_enter Tryz.func33, Tryz.ntmps33
    go_wp2
    go_region_with ((go_at_call 42; refine (pick_any _ _ _ (by omega) ha0 ha1 (by omega)).mono ?_; rintro e1 w1 ⟨k, rfl, hk', rfl⟩))
    all_goals
      have hkl : k < l.length := by omega
      obtain ⟨q1, y, q2, hq, hqk⟩ := split_at hkl
      have hgz := owns_froz hown
      obtain ⟨d0, d1, d2, d3, d4, d5, d6, d7, d8, d9, d10, d11, d12, d13⟩ := (owns_ins hown (k := k) (x := y) (by rw [hq, ← hqk]; simp)).cells
      have HF : Hid (∀ ob, OwnPost X w B n true (.returned (.bool true)) (((w.setCells g (k * 14) (insC o.ins)).alloc ob).drew.drew)) := by
        intro ob
        have kg : Kp (fun b => b = g) w (w.setCells g (k * 14) (insC o.ins)) := Kp.setCells (S := fun b => b = g) (Or.inr rfl) _ _ _ (Kp.refl _ _)
        have h2 : LS X (w.setCells g (k * 14) (insC o.ins)) B n s t la lb (.slice (some ⟨g, 0, none⟩) l.length cap) (q1 ++ o.ins :: q2) vs F := by
          refine ⟨H.out.lw.sm (kg.sm hl (by omega)), ?_, ?_, H.out.hs, H.out.ht, X.keep H.out.oth kg (fun b e => by subst e; exact H.out.apart _ rfl), H.out.above, H.out.apart⟩
          · have := H.out.own
            rw [hq] at this
            have h3 := owns_put (x := o.ins) this
            rw [hqk] at h3
            have e : (q1 ++ o.ins :: q2).length = l.length := by rw [hq]; simp
            rw [e] at h3 ⊢
            exact h3
          · have e : (q1 ++ o.ins :: q2).length = l.length := by rw [hq]; simp
            rw [e]; exact hlen
        have kk : Nw (w.setCells g (k * 14) (insC o.ins)) ((w.setCells g (k * 14) (insC o.ins)).alloc ob).drew.drew := (((Kp.refl _ _).alloc _).drew).drew
        exact ⟨rfl, ⟨_, _, _, _, _, _, _, _, h2.nw kk⟩, (kg.mono (by intro b _ e; omega)).trans (kk.mono (fun _ _ h => False.elim h))⟩
      clear hq hqk hown
      go_wp2
      go_region
      all_goals
        go_wp2
        go_ret
        exact HF.out _
end Go.Proofs.YtcboiapggnmpfaaGreat

namespace Go.Proofs.YtcboiapggnmpfaaGreat
open Go.RowKit
set_option linter.unusedSimpArgs false
set_option linter.unusedVariables false

theorem LSE.up {X : Oth} {w : World} {B n : Nat} (h : LSE X w B n) : LSE X w B (n + 1) := by
  obtain ⟨s, t, la, lb, cv, l, vs, F, h⟩ := h
  exact ⟨s, t, la, lb, cv, l, vs, F, h.up⟩
theorem LSE.nw {X : Oth} {w w' : World} {B n : Nat} (h : LSE X w B n) (k : Nw w w') : LSE X w' B n := by
  obtain ⟨s, t, la, lb, cv, l, vs, F, h⟩ := h
  exact ⟨s, t, la, lb, cv, l, vs, F, h.nw k⟩
theorem OwnPost.up {X : Oth} {w w' : World} {B n : Nat} {b : Bool} {e : Ending} (h : OwnPost X w B n b e w') : OwnPost X w B (n + 1) b e w' := ⟨h.1, h.2.1.up, h.2.2⟩
/-- What a step's numbers and text are: as the program's types have them. -/
structure Opr.Fit (o : Opr) : Prop where
  s : o.s.size ≤ maxLen
  a0 : -9223372036854775808 ≤ o.a
  a1 : o.a ≤ 9223372036854775807
theorem owner_own (hC : CompileOk) (X : Oth) (hM : MarksOk X) (B n : Nat) (o : Opr) (w : World) (h : LSE X w B n) (hk : 1 ≤ o.kind) (hk' : o.kind ≤ 8) (hf : o.Fit) (hn : n ≤ 740000000000) : Calls Tryz.prog 33 #[.pointer (some ⟨B, 0, none⟩), opV o] w (OwnPost X w B (n + 1) true) := by
  have : o.kind = 1 ∨ o.kind = 2 ∨ o.kind = 3 ∨ o.kind = 4 ∨ o.kind = 5 ∨ o.kind = 6 ∨ o.kind = 7 ∨ o.kind = 8 := by omega
  rcases this with e | e | e | e | e | e | e | e
  · exact (owner_1 X B n o w h e hf.s).mono (fun _ _ h => h.up)
  · exact (owner_2 X B n o w h e hf.s).mono (fun _ _ h => h.up)
  · exact (owner_3 X B n o w h e).mono (fun _ _ h => h.up)
  · exact owner_4 X B n o w h e hn
  · exact (owner_5 X B n o w h e).mono (fun _ _ h => h.up)
  · exact (owner_6 hC X B n o w h e).mono (fun _ _ h => h.up)
  · exact (owner_7 X B n o w h e hn hf.a0 hf.a1).mono (fun _ _ h => h.up)
  · exact (owner_8 X hM B n o w h e hn hf.a0 hf.a1).mono (fun _ _ h => h.up)
theorem owns_codeP {w : World} {base : Nat} {p : Option Addr} {c : Nat} {l : List In} (h : w.ownsRow base 40 14 (.slice p l.length c) l.length (codeC l)) : CodeP w p l := by
  intro hne
  obtain ⟨g, cap, e, hg, hg2⟩ := h.form (List.length_pos_iff.2 hne)
  simp only [Value.slice.injEq, true_and] at e
  obtain ⟨rfl, rfl⟩ := e
  exact ⟨g, rfl, hg2, fun i x hx => owns_ins h hx⟩
theorem Tryz.row44 : (Tryz.prog.underlying 44).map TypeDesc.isRow = some true := by kernel_rfl
theorem Tryz.size44 : (Tryz.prog.info? 44).map (·.size) = some 23 := by kernel_rfl
theorem range_new (w : World) (cs : List Value) (t : TypeId) {B : Nat} (hB : B = w.heap.size) : (w.alloc (.cells cs.toArray t)).rangeAt B 0 cs := by
  subst hB
  intro j v hv
  rw [Nat.zero_add, World.cell?_alloc_at (w := w) cs.toArray t _ j rfl]
  simpa using hv
theorem range_is (w : World) (o : Opr) (W : World) (hW : W = w.alloc (.cells (opC o).toArray 44)) : W.rangeAt w.heap.size 0 (opC o) := by rw [hW]; exact range_new w (opC o) _ rfl
theorem opC_length (o : Opr) : (opC o).length = 23 := by simp [opC]
theorem sizeO (o : Opr) : (Tryz.prog.info? 44).map (·.size) = some (opC o).length := by rw [opC_length]; exact Tryz.size44
set_option maxRecDepth 100000 in
set_option maxHeartbeats 1000000 in
theorem step_own (hC : CompileOk) (X : Oth) (hM : MarksOk X) (B n : Nat) (o : Opr) (w : World) (h : LSE X w B n) (hk : 1 ≤ o.kind) (hk' : o.kind ≤ 8) (hf : o.Fit) (hn : n ≤ 740000000000) : Calls Tryz.prog 14 #[.pointer (some ⟨B, 0, none⟩), opV o] w (OwnPost X w B (n + 1) true) := by
  have h2 : Hid (∀ ob, LSE X (w.alloc ob) B n) := fun ob => h.nw ((Kp.refl _ _).alloc _)
  obtain ⟨d, hu, hd⟩ := Option.map_eq_some_iff.1 Tryz.row44
  have HU : Hid (Tryz.prog.underlying 44 = some d) := hu
  have HD : Hid (d.isRow = true) := hd
  clear hu hd
  unfold opV
  go_enter Tryz.func14, Tryz.ntmps14
  go_wp2_with (first | (with_reducible (show Go.wpList _ _ _ ({ dst := _, op := Op.load _ _, type := _, pos := _, after := _, guard := _ } :: _) _ _); refine wpList_load_mid rfl 44 _ rfl w.heap.size 0 rfl (opC o) d (range_is w o _ rfl) HU.out HD.out (sizeO o) ?_) | fail)
  go_wp2_with fail
  refine (owner_own hC X hM B n o _ (h2.out _) hk hk' hf hn).mono ?_
  rintro e w1 ⟨rfl, h1, k1⟩
  go_wp2
  go_ret
  exact ⟨rfl, h1, ((Kp.refl _ w).alloc _).trans k1⟩
set_option maxRecDepth 100000 in
set_option maxHeartbeats 1000000 in
theorem step_low (X : Oth) (B n : Nat) (o : Opr) (w : World) (h : LSE X w B n) (hk : o.kind < 1) : Calls Tryz.prog 14 #[.pointer (some ⟨B, 0, none⟩), opV o] w (OwnPost X w B n true) := by
  have h2 : Hid (∀ ob, LSE X (w.alloc ob) B n) := fun ob => h.nw ((Kp.refl _ _).alloc _)
  obtain ⟨d, hu, hd⟩ := Option.map_eq_some_iff.1 Tryz.row44
  have HU : Hid (Tryz.prog.underlying 44 = some d) := hu
  have HD : Hid (d.isRow = true) := hd
  clear hu hd
  unfold opV
  go_enter Tryz.func14, Tryz.ntmps14
  go_wp2_with (first | (with_reducible (show Go.wpList _ _ _ ({ dst := _, op := Op.load _ _, type := _, pos := _, after := _, guard := _ } :: _) _ _); refine wpList_load_mid rfl 44 _ rfl w.heap.size 0 rfl (opC o) d (range_is w o _ rfl) HU.out HD.out (sizeO o) ?_) | fail)
  go_wp2_with fail
  refine (owner_off X B n o _ (h2.out _) (Or.inl hk)).mono ?_
  rintro e w1 ⟨rfl, h1, k1⟩
  obtain ⟨kk, hl, ⟨kc, kz⟩⟩ := k1.box (fun h => h)
  have K1 : Hid (Nw w w1) := kk
  have H1 : Hid (LSE X w1 B n) := h1
  have e9 : (o.kind == 9) = false := by simp; omega
  have e10 : (o.kind == 10) = false := by simp; omega
  have e11 : (o.kind == 11) = false := by simp; omega
  have e12 : (o.kind == 12) = false := by simp; omega
  have e13 : (o.kind == 13) = false := by simp; omega
  have e14 : (o.kind == 14) = false := by simp; omega
  have e15 : (o.kind == 15) = false := by simp; omega
  have e16 : (o.kind == 16) = false := by simp; omega
  clear kk k1 h1 hk
  go_wp2
  go_ret
  exact ⟨rfl, H1.out, K1.out.mono (fun _ _ h => False.elim h)⟩
end Go.Proofs.YtcboiapggnmpfaaGreat

namespace Go.Proofs.YtcboiapggnmpfaaGreat
open Go.RowKit
set_option linter.unusedSimpArgs false
set_option linter.unusedVariables false

def OprAt (w : World) (b o : Nat) (x : Opr) : Prop := ∀ k v, (opC x)[k]? = some v → w.cell? ⟨b, o + k, none⟩ = some v
/-- The script's steps lie in block g, from cell z on. -/
structure Ops (w : World) (g z : Nat) (os : List Opr) : Prop where
  lt : g < w.heap.size
  ops : ∀ (i : Nat) x, os[i]? = some x → OprAt w g (z + i * 23) x
theorem Ops.kp {S : Nat → Prop} {w w' : World} {g z : Nat} {os : List Opr} (h : Ops w g z os) (k : Kp S w w') (hs : ¬ S g) : Ops w' g z os :=
  ⟨Nat.lt_of_lt_of_le h.lt k.size, fun i x hx j v hv => (k.cell (p := ⟨g, z + i * 23 + j, none⟩) h.lt hs).trans (h.ops i x hx j v hv)⟩
def OpsP (w : World) (p : Option Addr) (os : List Opr) : Prop := ¬ os = [] → ∃ g z, p = some ⟨g, z, none⟩ ∧ Ops w g z os
theorem LSE.start (X : Oth) (w : World) : LSE X (w.alloc (.cells #[.string ⟨#[]⟩, .string ⟨#[]⟩, .int .i64 0, .int .i64 0, .slice none 0 0, .slice none 0 0, .slice none 0 0, .slice none 0 0, .slice none 0 0, .slice none 0 0] 33)) w.heap.size 0 := by
  refine ⟨⟨#[]⟩, ⟨#[]⟩, 0, 0, .slice none 0 0, [], vs0, fun _ => False, ⟨?_, World.ownsRow_nil _ _ _ _, by simp, by simp [ByteArray.size, maxLen], by simp [ByteArray.size, maxLen], X.start _, fun _ h => False.elim h, fun _ h => by simp [Value.ownBlock] at h⟩⟩
  constructor <;> simp [go_sem, World.cell?_alloc_at, World.frozen?_alloc_at, vs0]
theorem LSE.looks {X : Oth} (hL : LooksOk X) {w : World} {B n : Nat} (h : LSE X w B n) (hn : n ≤ 740000000001) : Calls Tryz.prog 15 #[.pointer (some ⟨B, 0, none⟩)] w fun e w' => e = .returned (.bool true) ∧ Nw w w' := by
  obtain ⟨s, t, la, lb, cv, l, vs, F, h⟩ := h
  exact hL B n s t la lb cv l vs F w h hn
/-- What is asked of the steps of three kinds. -/
def StepsOk (X : Oth) (a b c : Int) : Prop := ∀ (B n : Nat) (o : Opr) (w : World), LSE X w B n → (o.kind = a ∨ o.kind = b ∨ o.kind = c) → o.Fit → n ≤ 740000000000 →
  Calls Tryz.prog 14 #[.pointer (some ⟨B, 0, none⟩), opV o] w (OwnPost X w B (n + 1) true)
set_option maxRecDepth 100000 in
set_option maxHeartbeats 1000000 in
theorem plays_any (hC : CompileOk) (X : Oth) (hM : MarksOk X) (hL : LooksOk X) (a b c : Int) (hS : StepsOk X a b c) (p : Option Addr) (cap : Nat) (os : List Opr) (w : World) (hp : OpsP w p os) (hf : ∀ o ∈ os, o.Fit) (hm : os.length ≤ 740000000000) :
    Calls Tryz.prog 13 #[.slice p os.length cap, .int .i64 a, .int .i64 b, .int .i64 c] w fun e w' => e = .returned (.bool true) ∧ Nw w w' := by
  go_enter Tryz.func13, Tryz.ntmps13
  go_wp2
  go_loopg [10] os.length (fun m v10 wr => ∃ i : Nat, v10 = .int .i64 i ∧ m = os.length - i ∧ i ≤ os.length ∧ LSE X wr w.heap.size i ∧ Kp (fun b => w.heap.size ≤ b) w wr)
  case atStart => exact ⟨0, rfl, rfl, by omega, LSE.start X w, (Kp.refl _ w).alloc _⟩
  case round =>
    obtain ⟨i, rfl, hm', hi, hL', hK⟩ := hrel
    have HL : Hid (LSE X wr w.heap.size i) := hL'
    have HK : Hid (Kp (fun b => w.heap.size ≤ b) w wr) := hK
    clear hL' hK
    by_cases hi' : i < os.length
    · obtain ⟨x, hx⟩ : ∃ x, os[i]? = some x := ⟨os[i], by simp [hi']⟩
      have hne : ¬ os = [] := by intro e; rw [e] at hx; simp at hx
      obtain ⟨g, z, rfl, ho⟩ := hp hne
      have ho2 : Ops wr g z os := ho.kp HK.out (by have := ho.lt; omega)
      have c0 : wr.cell? ⟨g, z + i * 23, none⟩ = some (.int .i64 x.kind) := ho2.ops i x hx 0 _ rfl
      have HR : Hid (wr.rangeAt g (z + i * 23) (opC x)) := ho2.ops i x hx
      have hfx : x.Fit := hf x (List.mem_of_getElem? hx)
      have HX : Hid (x.Fit) := hfx
      have hi3 : i ≤ 740000000000 := by omega
      clear ho ho2 hp hx hfx
      by_cases h9 : 9 ≤ x.kind ∧ ¬ x.kind = a ∧ ¬ x.kind = b ∧ ¬ x.kind = c
      · obtain ⟨h9, h11, h12, h13⟩ := h9
        have h11' : (x.kind != a) = true := by simp [h11]
        have h12' : (x.kind != b) = true := by simp [h12]
        have h13' : (x.kind != c) = true := by simp [h13]
        clear h11 h12 h13
        go_wp2
        go_roundg (os.length - (i + 1))
        case measure => omega
        case rel => exact ⟨i + 1, by simp, rfl, by omega, HL.out.up, HK.out⟩
      · have hst : Hid (Calls Tryz.prog 14 #[.pointer (some ⟨w.heap.size, 0, none⟩), opV x] wr (OwnPost X wr w.heap.size (i + 1) true)) := by
          by_cases h1 : x.kind < 1
          · exact (step_low X _ i x wr HL.out h1).mono (fun _ _ h => h.up)
          · by_cases h8 : x.kind ≤ 8
            · exact step_own hC X hM _ i x wr HL.out (by omega) h8 HX.out hi3
            · exact hS _ i x wr HL.out (by omega) HX.out hi3
        have hcase : (decide (9 ≤ x.kind) = false) ∨ (decide (9 ≤ x.kind) = true ∧ (x.kind != a) = false) ∨ (decide (9 ≤ x.kind) = true ∧ (x.kind != a) = true ∧ (x.kind != b) = false) ∨ (decide (9 ≤ x.kind) = true ∧ (x.kind != a) = true ∧ (x.kind != b) = true ∧ (x.kind != c) = false) := by
          by_cases q : 9 ≤ x.kind
          · have qd : decide (9 ≤ x.kind) = true := decide_eq_true q
            by_cases q1 : x.kind = a
            · exact Or.inr (Or.inl ⟨qd, bne_eq_false_iff_eq.2 q1⟩)
            · by_cases q2 : x.kind = b
              · exact Or.inr (Or.inr (Or.inl ⟨qd, bne_iff_ne.2 q1, bne_eq_false_iff_eq.2 q2⟩))
              · by_cases q3 : x.kind = c
                · exact Or.inr (Or.inr (Or.inr ⟨qd, bne_iff_ne.2 q1, bne_iff_ne.2 q2, bne_eq_false_iff_eq.2 q3⟩))
                · exact absurd ⟨q, q1, q2, q3⟩ h9
          · exact Or.inl (decide_eq_false q)
        clear h9
        obtain ⟨d, hu, hd⟩ := Option.map_eq_some_iff.1 Tryz.row44
        have HU : Hid (Tryz.prog.underlying 44 = some d) := hu
        have HD : Hid (d.isRow = true) := hd
        clear hu hd
        rcases hcase with h9 | ⟨h9, q1⟩ | ⟨h9, q1, q2⟩ | ⟨h9, q1, q2, q3⟩
        all_goals
          go_wp2_with (first | (with_reducible (show Go.wpList _ _ _ ({ dst := _, op := Op.load _ _, type := _, pos := _, after := _, guard := _ } :: _) _ _); refine wpList_load_mid rfl 44 _ rfl g (z + i * 23) rfl (opC x) d HR.out HU.out HD.out (sizeO x) ?_) | fail)
          refine hst.out.mono ?_
          rintro e w1 ⟨rfl, h1, k1⟩
          have L1 : Hid (LSE X w1 w.heap.size (i + 1)) := h1
          have K1 : Hid (Kp (fun b => w.heap.size ≤ b) w w1) := HK.out.trans k1
          clear h1 k1 HR
          clear c0
          go_wp2_with fail
          refine (L1.out.looks hL (by omega)).mono ?_
          rintro e w2 ⟨rfl, k2⟩
          have L2 : Hid (LSE X w2 w.heap.size (i + 1)) := L1.out.nw k2
          have K2 : Hid (Kp (fun b => w.heap.size ≤ b) w w2) := K1.out.trans (k2.mono (fun _ _ h => False.elim h))
          clear k2
          go_wp2
          go_roundg (os.length - (i + 1))
          case measure => omega
          case rel => exact ⟨i + 1, by simp, rfl, by omega, L2.out, K2.out⟩
    · go_wp2
      go_ret
      exact ⟨rfl, HK.out.mono (fun b hb e => by omega)⟩
end Go.Proofs.YtcboiapggnmpfaaGreat

namespace Go.Proofs.YtcboiapggnmpfaaGreat
open Go.ChangeShapes Go.WideShapes Go.ChangeAt Go.RowKit Go.Deep
set_option linter.unusedSimpArgs false
set_option linter.unusedVariables false

theorem Tryz.own : ownKnob Tryz.prog.godebug = none := by kernel_rfl
theorem Tryz.laidOut : laidOutB Tryz.prog = true := by kernel_rfl
/-- A struct type's fields: their types and where they begin. -/
def fieldsOf : TypeDesc → Option (List (TypeId × Nat))
  | .struct fs => some (fs.toList.map fun f => (f.type, f.offset))
  | _ => none
theorem struct_fields {H : Type} {enc : TypeId × Value → H} {P : Program} {w : World} {base : Nat} {spare : Nat → Bool} {held : Bool} {t : TypeId} {l : List (TypeId × Nat)} {fuel : Nat} {cs : List Value} {x : DataW H × List MemPlace}
    (h : (P.underlying t).map fieldsOf = some (some l)) (ht : DataW.trod enc P w base spare held fuel t cs = some x) :
    cs.length = P.cellsOf t ∧ ∃ n, ∀ (i : Nat) (ty : TypeId) (off : Nat), l[i]? = some (ty, off) → ∃ y, DataW.trod enc P w base spare held n ty ((cs.drop off).take (P.cellsOf ty)) = some y := by
  obtain ⟨d, hd, hl⟩ := Option.map_eq_some_iff.1 h
  cases d with
  | struct fs =>
    simp only [fieldsOf, Option.some.injEq] at hl
    obtain ⟨xs, n, _, _, hlen, hxs, hf⟩ := DataW.trod_struct hd ht
    refine ⟨hlen, n, fun i ty off hi => ?_⟩
    rw [← hl, List.getElem?_map] at hi
    obtain ⟨f, hf1, hf2⟩ := Option.map_eq_some_iff.1 hi
    simp only [Prod.mk.injEq] at hf2
    obtain ⟨rfl, rfl⟩ := hf2
    have hfi : fs[i]? = some f := by simpa using hf1
    have hlt : i < xs.length := by rw [hxs]; exact (Array.getElem?_eq_some_iff.1 hfi).1
    exact ⟨xs[i], by rw [hf i f hfi]; simp⟩
  | _ => simp [fieldsOf] at hl
theorem Tryz.fl44 : (Tryz.prog.underlying 44).map fieldsOf = some (some [(3, 0), (3, 1), (3, 2), (9, 3), (40, 4), (42, 18)]) := by kernel_rfl
theorem Tryz.fl40 : (Tryz.prog.underlying 40).map fieldsOf = some (some [(3, 0), (3, 1), (3, 2), (38, 3)]) := by kernel_rfl
theorem Tryz.fl38 : (Tryz.prog.underlying 38).map fieldsOf = some (some [(36, 0), (3, 3), (36, 4), (3, 7), (36, 8)]) := by kernel_rfl
theorem Tryz.fl36 : (Tryz.prog.underlying 36).map fieldsOf = some (some [(3, 0), (3, 1), (3, 2)]) := by kernel_rfl
theorem Tryz.fl42 : (Tryz.prog.underlying 42).map fieldsOf = some (some [(3, 0), (3, 1), (3, 2), (3, 3), (3, 4)]) := by kernel_rfl
theorem Tryz.cn3 : Tryz.prog.cellsOf 3 = 1 := by kernel_rfl
theorem Tryz.cn9 : Tryz.prog.cellsOf 9 = 1 := by kernel_rfl
theorem Tryz.cn44 : Tryz.prog.cellsOf 44 = 23 := by kernel_rfl
theorem Tryz.cn40 : Tryz.prog.cellsOf 40 = 14 := by kernel_rfl
theorem Tryz.cn38 : Tryz.prog.cellsOf 38 = 11 := by kernel_rfl
theorem Tryz.cn36 : Tryz.prog.cellsOf 36 = 3 := by kernel_rfl
theorem Tryz.cn42 : Tryz.prog.cellsOf 42 = 5 := by kernel_rfl
theorem Tryz.un3 : Tryz.prog.underlying 3 = some (.int .i64) := by kernel_rfl
theorem Tryz.un9 : Tryz.prog.underlying 9 = some .string := by kernel_rfl
section
variable {H : Type} {enc : TypeId × Value → H} {w : World} {base : Nat} {spare : Nat → Bool} {held : Bool}
theorem take_one {cs : List Value} {off : Nat} {v : Value} (h : (cs.drop off).take 1 = [v]) : cs[off]? = some v := by
  have : ((cs.drop off).take 1)[0]? = some v := by rw [h]; rfl
  rw [List.getElem?_take_of_lt (by omega), List.getElem?_drop] at this
  simpa using this
/-- A cell that holds an int. -/
def IntAt (cs : List Value) (k : Nat) : Prop := ∃ n : Int, cs[k]? = some (.int .i64 n) ∧ -9223372036854775808 ≤ n ∧ n ≤ 9223372036854775807
theorem int_field {n off : Nat} {cs : List Value} (h : ∃ y, DataW.trod enc Tryz.prog w base spare held n 3 ((cs.drop off).take (Tryz.prog.cellsOf 3)) = some y) : IntAt cs off := by
  obtain ⟨y, hy⟩ := h
  obtain ⟨m, hm, _, hw⟩ := DataW.trod_int Tryz.un3 hy
  rw [Tryz.cn3] at hm
  exact ⟨m, take_one hm, bounds_i64 hw⟩
theorem IntAt.sub {cs : List Value} {off n k : Nat} (h : IntAt ((cs.drop off).take n) k) (hk : k < n) : IntAt cs (off + k) := by
  obtain ⟨m, hm, hb⟩ := h
  rw [List.getElem?_take_of_lt hk, List.getElem?_drop] at hm
  exact ⟨m, hm, hb⟩
theorem term_ints {n : Nat} {cs : List Value} (h : ∃ y, DataW.trod enc Tryz.prog w base spare held n 36 cs = some y) : IntAt cs 0 ∧ IntAt cs 1 ∧ IntAt cs 2 := by
  obtain ⟨y, hy⟩ := h
  obtain ⟨_, m, hf⟩ := struct_fields Tryz.fl36 hy
  exact ⟨int_field (hf 0 _ _ rfl), int_field (hf 1 _ _ rfl), int_field (hf 2 _ _ rfl)⟩
theorem test_ints {n : Nat} {cs : List Value} (h : ∃ y, DataW.trod enc Tryz.prog w base spare held n 38 cs = some y) : ∀ k, k < 11 → IntAt cs k := by
  obtain ⟨y, hy⟩ := h
  obtain ⟨_, m, hf⟩ := struct_fields Tryz.fl38 hy
  have hc := Tryz.cn36
  have t0 := term_ints (hf 0 _ _ rfl)
  have t2 := term_ints (hf 2 _ _ rfl)
  have t4 := term_ints (hf 4 _ _ rfl)
  rw [hc] at t0 t2 t4
  intro k hk
  have : k = 0 ∨ k = 1 ∨ k = 2 ∨ k = 3 ∨ k = 4 ∨ k = 5 ∨ k = 6 ∨ k = 7 ∨ k = 8 ∨ k = 9 ∨ k = 10 := by omega
  rcases this with e | e | e | e | e | e | e | e | e | e | e <;> subst e
  · exact t0.1.sub (by omega)
  · exact t0.2.1.sub (by omega)
  · exact t0.2.2.sub (by omega)
  · exact int_field (hf 1 _ _ rfl)
  · exact t2.1.sub (by omega)
  · exact t2.2.1.sub (by omega)
  · exact t2.2.2.sub (by omega)
  · exact int_field (hf 3 _ _ rfl)
  · exact t4.1.sub (by omega)
  · exact t4.2.1.sub (by omega)
  · exact t4.2.2.sub (by omega)
theorem ins_ints {n : Nat} {cs : List Value} (h : ∃ y, DataW.trod enc Tryz.prog w base spare held n 40 cs = some y) : ∀ k, k < 14 → IntAt cs k := by
  obtain ⟨y, hy⟩ := h
  obtain ⟨_, m, hf⟩ := struct_fields Tryz.fl40 hy
  have t3 := test_ints (hf 3 _ _ rfl)
  rw [Tryz.cn38] at t3
  intro k hk
  by_cases h3 : k < 3
  · have : k = 0 ∨ k = 1 ∨ k = 2 := by omega
    rcases this with e | e | e <;> subst e
    · exact int_field (hf 0 _ _ rfl)
    · exact int_field (hf 1 _ _ rfl)
    · exact int_field (hf 2 _ _ rfl)
  · have := (t3 (k - 3) (by omega)).sub (by omega)
    have e : 3 + (k - 3) = k := by omega
    rw [e] at this; exact this
/-- A step that came in. -/
theorem opr_of {n : Nat} {cs : List Value} {x : DataW H × List MemPlace} (h : DataW.trod enc Tryz.prog w base spare held n 44 cs = some x) : ∃ o : Opr, cs = opC o ∧ o.Fit := by
  obtain ⟨hl, m, hf⟩ := struct_fields Tryz.fl44 h
  rw [Tryz.cn44] at hl
  obtain ⟨k0, e0, _⟩ := int_field (hf 0 _ _ rfl)
  obtain ⟨k1, e1, b0, b1⟩ := int_field (hf 1 _ _ rfl)
  obtain ⟨k2, e2, _⟩ := int_field (hf 2 _ _ rfl)
  obtain ⟨ys, hys⟩ := hf 3 _ _ rfl
  obtain ⟨s, hs, _, hsz⟩ := DataW.trod_string Tryz.un9 hys
  rw [Tryz.cn9] at hs
  have e3 := take_one hs
  have ti := ins_ints (hf 4 _ _ rfl)
  rw [Tryz.cn40] at ti
  obtain ⟨ye, hye⟩ := hf 5 _ _ rfl
  obtain ⟨_, m2, hg⟩ := struct_fields Tryz.fl42 hye
  rw [Tryz.cn42] at hg
  obtain ⟨i0, j0, _⟩ := (ti 0 (by omega)).sub (by omega)
  obtain ⟨i1, j1, _⟩ := (ti 1 (by omega)).sub (by omega)
  obtain ⟨i2, j2, _⟩ := (ti 2 (by omega)).sub (by omega)
  obtain ⟨i3, j3, _⟩ := (ti 3 (by omega)).sub (by omega)
  obtain ⟨i4, j4, _⟩ := (ti 4 (by omega)).sub (by omega)
  obtain ⟨i5, j5, _⟩ := (ti 5 (by omega)).sub (by omega)
  obtain ⟨i6, j6, _⟩ := (ti 6 (by omega)).sub (by omega)
  obtain ⟨i7, j7, _⟩ := (ti 7 (by omega)).sub (by omega)
  obtain ⟨i8, j8, _⟩ := (ti 8 (by omega)).sub (by omega)
  obtain ⟨i9, j9, _⟩ := (ti 9 (by omega)).sub (by omega)
  obtain ⟨i10, j10, _⟩ := (ti 10 (by omega)).sub (by omega)
  obtain ⟨i11, j11, _⟩ := (ti 11 (by omega)).sub (by omega)
  obtain ⟨i12, j12, _⟩ := (ti 12 (by omega)).sub (by omega)
  obtain ⟨i13, j13, _⟩ := (ti 13 (by omega)).sub (by omega)
  obtain ⟨v0, u0, _⟩ := (int_field (hg 0 _ _ rfl)).sub (by omega)
  obtain ⟨v1, u1, _⟩ := (int_field (hg 1 _ _ rfl)).sub (by omega)
  obtain ⟨v2, u2, _⟩ := (int_field (hg 2 _ _ rfl)).sub (by omega)
  obtain ⟨v3, u3, _⟩ := (int_field (hg 3 _ _ rfl)).sub (by omega)
  obtain ⟨v4, u4, _⟩ := (int_field (hg 4 _ _ rfl)).sub (by omega)
  refine ⟨⟨k0, k1, k2, s, ⟨i0, i1, i2, ⟨⟨i3, i4, i5⟩, i6, ⟨i7, i8, i9⟩, i10, ⟨i11, i12, i13⟩⟩⟩, (v0, v1, v2, v3, v4)⟩, ?_, ⟨hsz, b0, b1⟩⟩
  apply List.ext_getElem?
  intro k
  by_cases hk : k < 23
  · have : k = 0 ∨ k = 1 ∨ k = 2 ∨ k = 3 ∨ k = 4 ∨ k = 5 ∨ k = 6 ∨ k = 7 ∨ k = 8 ∨ k = 9 ∨ k = 10 ∨ k = 11 ∨ k = 12 ∨ k = 13 ∨ k = 14 ∨ k = 15 ∨ k = 16 ∨ k = 17 ∨ k = 18 ∨ k = 19 ∨ k = 20 ∨ k = 21 ∨ k = 22 := by omega
    rcases this with e | e | e | e | e | e | e | e | e | e | e | e | e | e | e | e | e | e | e | e | e | e | e <;> subst e <;> simp only [opC] <;> (first | (rw [e0]; rfl) | (rw [e1]; rfl) | (rw [e2]; rfl) | (rw [e3]; rfl) | (rw [j0]; rfl) | (rw [j1]; rfl) | (rw [j2]; rfl) | (rw [j3]; rfl) | (rw [j4]; rfl) | (rw [j5]; rfl) | (rw [j6]; rfl) | (rw [j7]; rfl) | (rw [j8]; rfl) | (rw [j9]; rfl) | (rw [j10]; rfl) | (rw [j11]; rfl) | (rw [j12]; rfl) | (rw [j13]; rfl) | (rw [u0]; rfl) | (rw [u1]; rfl) | (rw [u2]; rfl) | (rw [u3]; rfl) | (rw [u4]; rfl))
  · rw [List.getElem?_eq_none (by omega), List.getElem?_eq_none (by rw [opC_length]; omega)]
end
end Go.Proofs.YtcboiapggnmpfaaGreat
