/- What a call leaves as it was: a frame told by the blocks that may be written. -/
import Derived.Test.YtcboiapggnmpfaaGreatRows
import Derived.WalkKit
import Derived.WalkSpells
import Derived.WalkLawsBesides
import Derived.Deep.Light
import Derived.Deep.QuietTactic
import Derived.BigQuiet
import Derived.Deep.RegionWith
import Derived.Deep.RegionHeld3
import Derived.Test.YtcboiapggnmpfaaGreatQa
import Derived.Deep.AppendLies
import Derived.OwnWalk
import Derived.OneCell
import Derived.Laws.MakeOwn
import Derived.Deep.LoopGhost
namespace Go.Proofs.YtcboiapggnmpfaaGreat
open Go.RowKit

/-- w' is w with new blocks, and with writes to the blocks of S alone. -/
structure Kp (S : Nat → Prop) (w w' : World) : Prop where
  os : w'.os = w.os
  tape : w'.tape = w.tape
  output : w'.output = w.output
  size : w.heap.size ≤ w'.heap.size
  block : ∀ k, k < w.heap.size → ¬ S k → w'.heap[k]? = w.heap[k]?
theorem Kp.refl (S : Nat → Prop) (w : World) : Kp S w w := ⟨rfl, rfl, rfl, Nat.le_refl _, fun _ _ _ => rfl⟩
theorem Kp.trans {S : Nat → Prop} {a b c : World} (h : Kp S a b) (k : Kp S b c) : Kp S a c :=
  ⟨k.os.trans h.os, k.tape.trans h.tape, k.output.trans h.output, Nat.le_trans h.size k.size, fun i hi hs => (k.block i (Nat.lt_of_lt_of_le hi h.size) hs).trans (h.block i hi hs)⟩
/-- The set of the second step may be larger on new blocks. -/
theorem Kp.trans' {S T : Nat → Prop} {a b c : World} (h : Kp S a b) (k : Kp T b c) (hT : ∀ i, i < a.heap.size → T i → S i) : Kp S a c :=
  ⟨k.os.trans h.os, k.tape.trans h.tape, k.output.trans h.output, Nat.le_trans h.size k.size, fun i hi hs => (k.block i (Nat.lt_of_lt_of_le hi h.size) (fun t => hs (hT i hi t))).trans (h.block i hi hs)⟩
theorem Kp.mono {S T : Nat → Prop} {a b : World} (h : Kp S a b) (hT : ∀ i, i < a.heap.size → S i → T i) : Kp T a b :=
  ⟨h.os, h.tape, h.output, h.size, fun i hi hs => h.block i hi (fun s => hs (hT i hi s))⟩
theorem Kp.drew {S : Nat → Prop} {a w : World} (h : Kp S a w) : Kp S a w.drew := ⟨h.os, h.tape, h.output, h.size, h.block⟩
theorem Kp.drewN {S : Nat → Prop} {a w : World} (h : Kp S a w) (n : Nat) : Kp S a (w.drewN n) := ⟨h.os, h.tape, h.output, h.size, h.block⟩
theorem Kp.alloc {S : Nat → Prop} {a w : World} (h : Kp S a w) (o : Obj) : Kp S a (w.alloc o) :=
  ⟨h.os, h.tape, h.output, Nat.le_trans h.size (by simp), fun k hk hs => (Below.heap_alloc _ _ _ (Nat.lt_of_lt_of_le hk h.size)).trans (h.block k hk hs)⟩
theorem Kp.setCell {S : Nat → Prop} {a w : World} (h : Kp S a w) {p : Addr} (hp : a.heap.size ≤ p.block ∨ S p.block) (u : Value) : Kp S a (w.setCell p u) := by
  refine ⟨h.os, h.tape, h.output, Nat.le_trans h.size (by simp [World.setCell]), fun k hk hs => ?_⟩
  refine (Below.heap_setCell _ _ _ _ ?_).trans (h.block k hk hs)
  intro e
  rcases hp with hp | hp
  · omega
  · exact hs (e ▸ hp)
theorem Kp.below {S : Nat → Prop} {a w w' : World} {B : Nat} (h : Kp S a w) (hb : Below B w w') (hB : a.heap.size ≤ B) : Kp S a w' :=
  ⟨hb.os.trans h.os, hb.tape.trans h.tape, hb.output.trans h.output, Nat.le_trans h.size hb.size, fun k hk hs => (hb.block k (by omega)).trans (h.block k hk hs)⟩
theorem Kp.grown {S : Nat → Prop} {a w w' : World} {row : Option Nat} (h : Kp S a w) (hg : w.grownBy w' row) (hr : ∀ k, row = some k → a.heap.size ≤ k ∨ S k) : Kp S a w' := by
  refine ⟨hg.os.trans h.os, hg.tape.trans h.tape, hg.output.trans h.output, Nat.le_trans h.size hg.size, fun k hk hs => ?_⟩
  refine (hg.block k (Nat.lt_of_lt_of_le hk h.size) ?_).trans (h.block k hk hs)
  intro e
  rcases hr k e.symm with h' | h'
  · omega
  · exact hs h'
theorem Kp.cell {S : Nat → Prop} {w w' : World} (h : Kp S w w') {p : Addr} (hp : p.block < w.heap.size) (hs : ¬ S p.block) : w'.cell? p = w.cell? p := World.cell?_of_block (w := w) (h.block p.block hp hs)
theorem Kp.frozen {S : Nat → Prop} {w w' : World} (h : Kp S w w') {p : Addr} (hp : p.block < w.heap.size) (hs : ¬ S p.block) : w'.frozen? p = w.frozen? p := World.frozen?_of_block (w := w) (h.block p.block hp hs)
theorem Kp.toBelow {S : Nat → Prop} {w w' : World} (h : Kp S w w') {B : Nat} (hB : B ≤ w.heap.size) (hS : ∀ k, S k → B ≤ k) : Below B w w' :=
  ⟨h.os, h.tape, h.output, h.size, fun k hk => h.block k (by omega) (fun s => by have := hS k s; omega)⟩
end Go.Proofs.YtcboiapggnmpfaaGreat

namespace Go.Proofs.YtcboiapggnmpfaaGreat
open Go.RowKit
set_option linter.unusedSimpArgs false
set_option linter.unusedVariables false

/-- Nothing that was there is written. -/
abbrev Nw (w w' : World) : Prop := Kp (fun _ => False) w w'
theorem Nw.refl (w : World) : Nw w w := Kp.refl _ _
/-- A block that stays: its cells, and that none is frozen. -/
structure Sm (W w1 : World) (B : Nat) : Prop where
  cell : ∀ o, w1.cell? ⟨B, o, none⟩ = W.cell? ⟨B, o, none⟩
  froz : ∀ o, w1.frozen? ⟨B, o, none⟩ = W.frozen? ⟨B, o, none⟩
theorem Sm.trans {a b c : World} {B : Nat} (h : Sm b c B) (k : Sm a b B) : Sm a c B := ⟨fun o => (h.cell o).trans (k.cell o), fun o => (h.froz o).trans (k.froz o)⟩
theorem Kp.sm {S : Nat → Prop} {W w1 : World} {B : Nat} (h : Kp S W w1) (hB : B < W.heap.size) (hs : ¬ S B) : Sm W w1 B := ⟨fun o => h.cell hB hs, fun o => h.frozen hB hs⟩
theorem Kp.box {S : Nat → Prop} {w w1 : World} {o : Obj} (k : Kp S (w.alloc o) w1) (hs : ¬ S w.heap.size) : Kp S w w1 ∧ w.heap.size < w1.heap.size ∧ Sm (w.alloc o) w1 w.heap.size :=
  ⟨((Kp.refl S w).alloc _).trans k, Nat.lt_of_lt_of_le (by simp) k.size, k.sm (by simp) hs⟩
theorem Kp.keeps {S : Nat → Prop} {W w1 w2 : World} {B : Nat} (k : Kp S w1 w2) (s : Sm W w1 B) (h : B < w1.heap.size) (hs : ¬ S B) : B < w2.heap.size ∧ Sm W w2 B :=
  ⟨Nat.lt_of_lt_of_le h k.size, (k.sm h hs).trans s⟩
theorem ret_b {a b : Bool} (h : a = b) : Ending.returned (.bool a) = .returned (.bool b) := by rw [h]
theorem isTermR_any (a b c : Int) (w : World) :
    Calls Tryz.prog 204 #[.agg #[.int .i64 a, .int .i64 b, .int .i64 c]] w fun e w' => e = .returned (.bool (tmIsB ⟨a, b, c⟩)) ∧ Nw w w' := by
  go_enter Tryz.func204, Tryz.ntmps204
  go_wp2
  all_goals go_ret
  all_goals refine ⟨ret_b ?_, (Kp.refl _ _).alloc _⟩
  all_goals (rw [Bool.eq_iff_iff]; simp [tmIsB] at *; omega)
theorem isTestR_any (a b c d e f g h i j k : Int) (w : World) :
    Calls Tryz.prog 155 #[.agg #[.int .i64 a, .int .i64 b, .int .i64 c, .int .i64 d, .int .i64 e, .int .i64 f, .int .i64 g, .int .i64 h, .int .i64 i, .int .i64 j, .int .i64 k]] w fun en w' => en = .returned (.bool (tstIsB ⟨⟨a, b, c⟩, d, ⟨e, f, g⟩, h, ⟨i, j, k⟩⟩)) ∧ Nw w w' := by
  generalize hT1 : tmIsB ⟨a, b, c⟩ = T1
  generalize hT2 : tmIsB ⟨e, f, g⟩ = T2
  generalize hT3 : tmIsB ⟨i, j, k⟩ = T3
  go_enter Tryz.func155, Tryz.ntmps155
  go_wp2_with fail
  refine (isTermR_any a b c _).mono ?_
  rw [hT1]
  rintro e1 w1 ⟨rfl, k1⟩
  obtain ⟨kk, hl, ⟨kc, kz⟩⟩ := k1.box (fun h => h)
  have K1 : Hid (Nw w w1) := kk
  have S1 : Hid (Sm _ w1 w.heap.size) := ⟨kc, kz⟩
  clear k1 kk
  go_wp2_with fail
  refine (isTermR_any e f g _).mono ?_
  rw [hT2]
  rintro e2 w2 ⟨rfl, k2⟩
  clear kc kz
  have K2 : Hid (Nw w w2) := K1.out.trans k2
  obtain ⟨hl2, ⟨kc, kz⟩⟩ := k2.keeps S1.out hl (fun h => h)
  have S2 : Hid (Sm _ w2 w.heap.size) := ⟨kc, kz⟩
  clear k2 S1
  go_wp2_with fail
  refine (isTermR_any i j k _).mono ?_
  rw [hT3]
  rintro e3 w3 ⟨rfl, k3⟩
  clear kc kz
  have K3 : Hid (Nw w w3) := K2.out.trans k3
  obtain ⟨hl3, ⟨kc, kz⟩⟩ := k3.keeps S2.out hl2 (fun h => h)
  clear k3 S2
  go_wp2
  all_goals go_ret
  all_goals refine ⟨ret_b ?_, K3.out⟩
  all_goals (rw [Bool.eq_iff_iff]; simp only [tstIsB, tm0B, hT1, hT2, hT3]; clear hT1 hT2 hT3 kc kz; cases T1 <;> cases T2 <;> cases T3 <;> (try simp at *) <;> (try omega))
end Go.Proofs.YtcboiapggnmpfaaGreat

namespace Go.Proofs.YtcboiapggnmpfaaGreat
open Go.RowKit

def tstV' (t : Tst) : Value := .agg #[.int .i64 t.left.of, .int .i64 t.left.field, .int .i64 t.left.num, .int .i64 t.rel, .int .i64 t.right.of, .int .i64 t.right.field, .int .i64 t.right.num, .int .i64 t.arith, .int .i64 t.more.of, .int .i64 t.more.field, .int .i64 t.more.num]
def insC (x : In) : List Value := [.int .i64 x.op, .int .i64 x.a, .int .i64 x.b, .int .i64 x.test.left.of, .int .i64 x.test.left.field, .int .i64 x.test.left.num, .int .i64 x.test.rel, .int .i64 x.test.right.of, .int .i64 x.test.right.field, .int .i64 x.test.right.num, .int .i64 x.test.arith, .int .i64 x.test.more.of, .int .i64 x.test.more.field, .int .i64 x.test.more.num]
def insV (x : In) : Value := .agg #[.int .i64 x.op, .int .i64 x.a, .int .i64 x.b, .int .i64 x.test.left.of, .int .i64 x.test.left.field, .int .i64 x.test.left.num, .int .i64 x.test.rel, .int .i64 x.test.right.of, .int .i64 x.test.right.field, .int .i64 x.test.right.num, .int .i64 x.test.arith, .int .i64 x.test.more.of, .int .i64 x.test.more.field, .int .i64 x.test.more.num]
/-- The instruction x lies in block b from cell o on. -/
def InsAt (w : World) (b o : Nat) (x : In) : Prop := ∀ k v, (insC x)[k]? = some v → w.cell? ⟨b, o + k, none⟩ = some v
theorem InsAt.cells {w : World} {b o : Nat} {x : In} (h : InsAt w b o x) :
    w.cell? ⟨b, o, none⟩ = some (.int .i64 x.op) ∧ w.cell? ⟨b, o + 1, none⟩ = some (.int .i64 x.a) ∧ w.cell? ⟨b, o + 2, none⟩ = some (.int .i64 x.b) ∧
    w.cell? ⟨b, o + 3, none⟩ = some (.int .i64 x.test.left.of) ∧ w.cell? ⟨b, o + 4, none⟩ = some (.int .i64 x.test.left.field) ∧ w.cell? ⟨b, o + 5, none⟩ = some (.int .i64 x.test.left.num) ∧
    w.cell? ⟨b, o + 6, none⟩ = some (.int .i64 x.test.rel) ∧ w.cell? ⟨b, o + 7, none⟩ = some (.int .i64 x.test.right.of) ∧ w.cell? ⟨b, o + 8, none⟩ = some (.int .i64 x.test.right.field) ∧ w.cell? ⟨b, o + 9, none⟩ = some (.int .i64 x.test.right.num) ∧
    w.cell? ⟨b, o + 10, none⟩ = some (.int .i64 x.test.arith) ∧ w.cell? ⟨b, o + 11, none⟩ = some (.int .i64 x.test.more.of) ∧ w.cell? ⟨b, o + 12, none⟩ = some (.int .i64 x.test.more.field) ∧ w.cell? ⟨b, o + 13, none⟩ = some (.int .i64 x.test.more.num) :=
  ⟨h 0 _ rfl, h 1 _ rfl, h 2 _ rfl, h 3 _ rfl, h 4 _ rfl, h 5 _ rfl, h 6 _ rfl, h 7 _ rfl, h 8 _ rfl, h 9 _ rfl, h 10 _ rfl, h 11 _ rfl, h 12 _ rfl, h 13 _ rfl⟩
/-- The instructions l lie in block g. -/
structure Code' (w : World) (g : Nat) (l : List In) : Prop where
  lt : g < w.heap.size
  ins : ∀ (i : Nat) x, l[i]? = some x → InsAt w g (i * 14) x
theorem Code'.kp {S : Nat → Prop} {w w' : World} {g : Nat} {l : List In} (h : Code' w g l) (k : Kp S w w') (hs : ¬ S g) : Code' w' g l :=
  ⟨Nat.lt_of_lt_of_le h.lt k.size, fun i x hx j v hv => (k.cell (p := ⟨g, i * 14 + j, none⟩) h.lt hs).trans (h.ins i x hx j v hv)⟩
/-- A list of numbers that is only read. -/
def IntsAt (w : World) (g : Nat) (ns : List Nat) : Prop := g < w.heap.size ∧ ∀ (k n : Nat), ns[k]? = some n → w.cell? ⟨g, k, none⟩ = some (.int .i64 n)
end Go.Proofs.YtcboiapggnmpfaaGreat

namespace Go.Proofs.YtcboiapggnmpfaaGreat
open Go.RowKit
set_option linter.unusedSimpArgs false
set_option linter.unusedVariables false

theorem ints_new (W : World) (vs : Array Value) (t : TypeId) (ns : List Nat) {b : Nat} (hb : b = W.heap.size) (h : vs.toList = ns.map (fun (n : Nat) => Value.int .i64 (n : Int))) : IntsAt (W.alloc (.cells vs t)) b ns := by
  subst hb
  refine ⟨by simp, fun k n hk => ?_⟩
  rw [World.cell?_alloc_at (w := W) vs t _ k rfl, ← Array.getElem?_toList, h]
  simp [hk]
/-- What steps answers: nothing, or a list of its own. -/
def NextPost (w : World) (ns : List Nat) (e : Ending) (w' : World) : Prop :=
  Nw w w' ∧ ((ns = [] ∧ e = .returned (.slice none 0 0)) ∨ ∃ g, w.heap.size ≤ g ∧ IntsAt w' g ns ∧ e = .returned (.slice (some ⟨g, 0, none⟩) ns.length ns.length))
set_option maxRecDepth 100000 in
set_option maxHeartbeats 1000000 in
theorem stepsR_any (g n cap i : Nat) (x : In) (l : List In) (w : World) (hc : Code' w g l) (hx : l[i]? = some x) (hn : l.length ≤ 1000) (ha : 0 ≤ x.a) (hb : 0 ≤ x.b) :
    Calls Tryz.prog 156 #[.slice (some ⟨g, 0, none⟩) l.length cap, .int .i64 i] w (NextPost w (nxt x i)) := by
  have hi : i < l.length := (List.getElem?_eq_some_iff.1 hx).1
  obtain ⟨c0, c1, c2, c3, c4, c5, c6, c7, c8, c9, c10, c11, c12, c13⟩ := (hc.ins i x hx).cells
  have hl := hc.lt
  have hne : ¬ w.heap.size = g := by omega
  have hne' : ¬ g = w.heap.size := by omega
  obtain ⟨q, x, y, ⟨⟨a, b, c⟩, d, ⟨e, f, g'⟩, h, ⟨i', j, k⟩⟩⟩ := x
  simp only at *
  go_enter Tryz.func156, Tryz.ntmps156
  go_wp2
  all_goals go_ret
  · rename_i hq
    refine ⟨(Kp.refl _ _).alloc _, Or.inl ⟨?_, rfl⟩⟩
    have hq' : q = 6 := by simpa using hq
    simp [nxt, hq']
  · rename_i h6 hq
    have hq' : q = 4 := by simpa using hq
    have e1 : nxt ⟨q, x, y, ⟨⟨a, b, c⟩, d, ⟨e, f, g'⟩, h, ⟨i', j, k⟩⟩⟩ i = [x.toNat] := by simp [nxt, hq']
    rw [e1]
    refine ⟨((Kp.refl _ _).alloc _).alloc _, Or.inr ⟨w.heap.size + 1, by omega, ?_, rfl⟩⟩
    exact ints_new _ _ _ _ (by simp) (by simp; omega)
  · rename_i h6 h4 hq
    have hq' : q = 5 := by simpa using hq
    have e1 : nxt ⟨q, x, y, ⟨⟨a, b, c⟩, d, ⟨e, f, g'⟩, h, ⟨i', j, k⟩⟩⟩ i = [x.toNat, y.toNat] := by simp [nxt, hq']
    rw [e1]
    refine ⟨((Kp.refl _ _).alloc _).alloc _, Or.inr ⟨w.heap.size + 1, by omega, ?_, rfl⟩⟩
    exact ints_new _ _ _ _ (by simp) (by simp; omega)
  · rename_i h6 h4 h5
    have e1 : nxt ⟨q, x, y, ⟨⟨a, b, c⟩, d, ⟨e, f, g'⟩, h, ⟨i', j, k⟩⟩⟩ i = [i + 1] := by simp at h6 h4 h5; simp [nxt, h6, h4, h5]
    rw [e1]
    refine ⟨((Kp.refl _ _).alloc _).alloc _, Or.inr ⟨w.heap.size + 1, by omega, ?_, rfl⟩⟩
    exact ints_new _ _ _ _ (by simp) (by simp)
end Go.Proofs.YtcboiapggnmpfaaGreat

namespace Go.Proofs.YtcboiapggnmpfaaGreat
open Go.RowKit

/-- Block g holds just vs, of the element type e. -/
def Row (w : World) (g : Nat) (e : TypeId) (vs : List Value) : Prop := w.heap[g]? = some (.cells vs.toArray e (0, 0))
theorem Row.lt {w : World} {g : Nat} {e : TypeId} {vs : List Value} (h : Row w g e vs) : g < w.heap.size := (Array.getElem?_eq_some_iff.1 h).1
theorem Row.cell {w : World} {g : Nat} {e : TypeId} {vs : List Value} (h : Row w g e vs) (k : Nat) : w.cell? ⟨g, k, none⟩ = vs[k]? := by
  rw [cell_of_row w g k _ e _ h]; simp
theorem Row.froz {w : World} {g : Nat} {e : TypeId} {vs : List Value} (h : Row w g e vs) (k : Nat) : w.frozen? ⟨g, k, none⟩ = false := frozen_of_row w g k _ e h
theorem Row.set {w : World} {g : Nat} {e : TypeId} {vs : List Value} (h : Row w g e vs) (k : Nat) (v : Value) : Row (w.setCell ⟨g, k, none⟩ v) g e (vs.set k v) := by
  have := heap_setCell_same w g k _ e v h
  rw [Row, this]
  simp
theorem Row.kp {S : Nat → Prop} {w w' : World} {g : Nat} {e : TypeId} {vs : List Value} (h : Row w g e vs) (k : Kp S w w') (hs : ¬ S g) : Row w' g e vs := by
  rw [Row, k.block g h.lt hs]; exact h
theorem Row.grown {w w' : World} {g : Nat} {e : TypeId} {vs : List Value} {row : Option Nat} (h : Row w g e vs) (k : w.grownBy w' row) (hs : ¬ some g = row) : Row w' g e vs := by
  rw [Row, k.block g h.lt hs]; exact h
theorem Row.alloc {w : World} {g : Nat} {e : TypeId} {vs : List Value} (h : Row w g e vs) (o : Obj) : Row (w.alloc o) g e vs := by
  rw [Row, Below.heap_alloc _ _ _ h.lt]; exact h
theorem Row.new (w : World) (vs : List Value) (e : TypeId) : Row (w.alloc (.cells vs.toArray e)) w.heap.size e vs := by
  exact heap_alloc_new w _
/-- A row of one's own that is full is known whole. -/
theorem Row.of_full {w : World} {base g n : Nat} {e : TypeId} {xs : List Value} (h : w.ownsRow base e 1 (.slice (some ⟨g, 0, none⟩) n n) n xs) : Row w g e xs := by
  obtain ⟨h1, h2⟩ := h
  rcases h2 with ⟨h2, _⟩ | ⟨g', cap, cur, h2, _, h3, _, _, h4, h5⟩
  · simp at h2
  · simp at h2
    obtain ⟨rfl, rfl⟩ := h2
    rw [Row, h3]
    have : cur.toList = xs := by
      rw [← h5, List.take_of_length_le]
      simp [h4]
    rw [← this]
/-- A block that was just made is a row of one's own. -/
theorem owns_new (w : World) {base : Nat} (hb : base ≤ w.heap.size) (e : TypeId) (vs : Array Value) (n size : Nat) (hn : vs.size = n * size) (hm : n ≤ maxLen) : (w.alloc (.cells vs e)).ownsRow base e size (.slice (some ⟨w.heap.size, 0, none⟩) n n) n vs.toList := by
  refine ⟨by simpa using hn, Or.inr ⟨w.heap.size, n, vs, rfl, hb, heap_alloc_new w _, Nat.le_refl _, hm, hn, ?_⟩⟩
  rw [List.take_of_length_le]
  simp [hn]
/-- What lies in a row of one's own. -/
theorem owns_cell {w : World} {base g n cap size : Nat} {e : TypeId} {xs : List Value} (h : w.ownsRow base e size (.slice (some ⟨g, 0, none⟩) n cap) n xs) (k : Nat) {v : Value} (hk : xs[k]? = some v) : w.cell? ⟨g, k, none⟩ = some v := by
  obtain ⟨h1, h2⟩ := h
  rcases h2 with ⟨h2, _⟩ | ⟨g', cap', cur, h2, _, h3, _, _, h4, h5⟩
  · simp at h2
  · simp at h2
    obtain ⟨rfl, rfl⟩ := h2
    rw [cell_of_row w g k _ e _ h3, ← Array.getElem?_toList]
    have hlt : k < n * size := by rw [← h1]; exact (List.getElem?_eq_some_iff.1 hk).1
    have : (cur.toList.take (n * size))[k]? = some v := by rw [h5]; exact hk
    rwa [List.getElem?_take_of_lt hlt] at this
theorem owns_lt {w : World} {base g n cap size : Nat} {e : TypeId} {xs : List Value} (h : w.ownsRow base e size (.slice (some ⟨g, 0, none⟩) n cap) n xs) : base ≤ g ∧ g < w.heap.size := by
  obtain ⟨h1, h2⟩ := h
  rcases h2 with ⟨h2, _⟩ | ⟨g', cap', cur, h2, hb, h3, _, _, h4, h5⟩
  · simp at h2
  · simp at h2
    obtain ⟨rfl, rfl⟩ := h2
    exact ⟨hb, (Array.getElem?_eq_some_iff.1 h3).1⟩
/-- A row and a known block of another element type lie apart. -/
theorem owns_row_ne {w : World} {base n size g : Nat} {e e2 : TypeId} {v : Value} {xs vs : List Value} (h : w.ownsRow base e size v n xs) (h2 : Row w g e2 vs) (hne : ¬ e = e2) : ¬ some g = v.ownBlock := by
  intro hg
  rcases h.2 with ⟨rfl, _⟩ | ⟨g', cap, cur, rfl, _, h3, _⟩
  · simp [Value.ownBlock] at hg
  · simp [Value.ownBlock] at hg
    subst hg
    rw [Row, h3] at h2
    simp only [Option.some.injEq, Obj.cells.injEq] at h2
    exact hne h2.2.1
theorem owns_kp {S : Nat → Prop} {w w' : World} {base n size : Nat} {e : TypeId} {v : Value} {xs : List Value} (h : w.ownsRow base e size v n xs) (k : Kp S w w') (hs : ∀ g, v.ownBlock = some g → ¬ S g) : w'.ownsRow base e size v n xs := by
  refine ⟨h.1, ?_⟩
  rcases h.2 with hn | ⟨g, cap, cur, rfl, hb, hg, rest⟩
  · exact .inl hn
  · refine .inr ⟨g, cap, cur, rfl, hb, ?_, rest⟩
    rw [k.block g (Array.getElem?_eq_some_iff.1 hg).1 (hs g rfl)]
    exact hg
theorem made_bools (n : Nat) : (madeCells #[Value.bool false] n).toList = (List.replicate n false).map Value.bool := by
  have hx : ∀ x : Nat, (#[Value.bool false] : Array Value)[x % (#[Value.bool false] : Array Value).size]! = Value.bool false := by
    intro x
    have : x % (#[Value.bool false] : Array Value).size = 0 := by simp; omega
    rw [this]; rfl
  simp only [madeCells, hx]
  apply List.ext_getElem?
  intro k
  simp [List.getElem?_replicate]
  by_cases h : k < n
  · simp [h]
  · simp [h]
def intsV (ns : List Nat) : List Value := ns.map (fun (n : Nat) => Value.int .i64 (n : Int))
theorem intsV_one (ns : List Nat) : ∀ u ∈ intsV ns, u.oneCell' = true := by
  intro u hu
  simp [intsV] at hu
  obtain ⟨n, _, rfl⟩ := hu
  rfl
end Go.Proofs.YtcboiapggnmpfaaGreat

namespace Go.Proofs.YtcboiapggnmpfaaGreat
open Go.RowKit
set_option linter.unusedSimpArgs false
set_option linter.unusedVariables false

theorem Tryz.info4 : (Tryz.prog.info? 4).map (fun i => (i.zero, i.size, i.bytes)) = some (some (.bool false), 1, 1) := by kernel_rfl
theorem Tryz.info3 : (Tryz.prog.info? 3).map (fun i => (i.zero, i.size, i.bytes)) = some (some (.int .i64 0), 1, 8) := by kernel_rfl
/-- What the search stands at between two rounds. -/
structure RSt (w wr : World) (l : List In) (g : Nat) (v : Value) (bs : List Bool) (ls : List Nat) : Prop where
  own : wr.ownsRow w.heap.size 3 1 v ls.length (intsV ls)
  row : Row wr w.heap.size 4 (bs.map Value.bool)
  code : Code' wr g l
  cnt : ls.length + bs.count false = l.length + 1
  nw : Nw w wr
theorem NextPost.form {w w' : World} {ns : List Nat} {e : Ending} (h : NextPost w ns e w') : ∃ p, e = .returned (.slice p ns.length ns.length) ∧ Nw w w' ∧ (¬ ns = [] → ∃ g, p = some ⟨g, 0, none⟩ ∧ w.heap.size ≤ g ∧ IntsAt w' g ns) := by
  obtain ⟨h1, h2⟩ := h
  rcases h2 with ⟨rfl, rfl⟩ | ⟨g, h3, h4, rfl⟩
  · exact ⟨none, rfl, h1, fun h => absurd rfl h⟩
  · exact ⟨some ⟨g, 0, none⟩, rfl, h1, fun _ => ⟨g, rfl, h3, h4⟩⟩
theorem IntsAt.kp {S : Nat → Prop} {w w' : World} {g : Nat} {ns : List Nat} (h : IntsAt w g ns) (k : Kp S w w') (hs : ¬ S g) : IntsAt w' g ns :=
  ⟨Nat.lt_of_lt_of_le h.1 k.size, fun j n hj => (k.cell (p := ⟨g, j, none⟩) h.1 hs).trans (h.2 j n hj)⟩
theorem Srch.next {l : List In} {t : Bool} {i : Nat} {bs : List Bool} {done : Nat → Prop} {ls : List Nat} {k x : Nat} (h : Srch l t i bs done (ls.drop k)) (hx : ls[k]? = some x) : Leav l t i bs done (ls.drop (k + 1)) x [] := by
  have e : ls.drop k = x :: ls.drop (k + 1) := by
    obtain ⟨h1, h2⟩ := List.getElem?_eq_some_iff.1 hx
    rw [List.drop_eq_getElem_cons h1, h2]
  rw [e] at h
  exact h.leave (by simp) (by simp) (by intro y hy; simp [hy])
theorem nxt_len (v : In) (i : Nat) : (nxt v i).length ≤ 2 := by
  unfold nxt
  split <;> (try split) <;> (try split) <;> simp
theorem take_next {ns : List Nat} {j y : Nat} (h : ns[j]? = some y) : ns.take (j + 1) = ns.take j ++ [y] := by
  obtain ⟨h1, h2⟩ := List.getElem?_eq_some_iff.1 h
  rw [List.take_add_one, h]; rfl
theorem news_one (w2 : World) {B : Nat} (hB : B = w2.heap.size) (cs : Array Value) (t : TypeId) : ∀ j u, cs.toList[j]? = some u → (w2.alloc (.cells cs t)).cell? ((⟨B, 0, none⟩ : Addr).add j) = some u := by
  subst hB
  exact World.news_of_block (heap_alloc_new w2 (.cells cs t))
theorem drop_push {ls : List Nat} {k y : Nat} (h : k < ls.length) : (ls ++ [y]).drop (k + 1) = ls.drop (k + 1) ++ [y] := by
  rw [List.drop_append_of_le_length (by omega)]
set_option maxRecDepth 100000 in
set_option maxHeartbeats 1000000 in
theorem reachedR_any (g cap i : Nat) (l : List In) (t : Bool) (w : World) (hc : Code' w g l) (hA : AllIns l) (hi : i < l.length) (hn : l.length ≤ 1000) :
    Calls Tryz.prog 102 #[.slice (some ⟨g, 0, none⟩) l.length cap, .int .i64 i, .bool t] w fun e w' =>
      ∃ bs : List Bool, e = .returned (.slice (some ⟨w.heap.size, 0, none⟩) l.length l.length) ∧ Row w' w.heap.size 4 (bs.map Value.bool) ∧ bs.length = l.length ∧ (∀ j : Nat, bs[j]? = some true ↔ Rch l t i j) ∧ Nw w w' := by
  have hl := hc.lt
  obtain ⟨i0, hi0, hz0, hz1, hz2⟩ := info_parts Tryz.info4
  obtain ⟨i1, hi1, hy0, hy1, hy2⟩ := info_parts Tryz.info3
  go_enter Tryz.func102, Tryz.ntmps102
  go_wp2_with (first | (at_make; refine wpList_make_full _ rfl _ _ 187 rfl w.heap.size 4 i0 (.bool false) 1 Tryz.underlying187 hi0 hz0 hz1 _ _ _ _ l.length rfl rfl rfl rfl ?b1 ?b2 ?b3 ?_) | fail)
  case b1 => rw [hz2]; omega
  case b2 => unfold maxLen; omega
  case b3 => exact Nat.le_refl _
  intro w1 hown1 hgrow1
  have R1 : Hid (Row w1 w.heap.size 4 ((List.replicate l.length false).map Value.bool)) := by
    have := Row.of_full hown1
    rw [made_bools] at this
    exact this
  have K1 : Hid (Nw w w1) := (Kp.refl _ w).grown hgrow1 (by intro k hk; cases hk)
  have hs1 := R1.out.lt
  have C1 : Hid (Code' w1 g l) := hc.kp K1.out (fun h => h)
  clear hown1 hgrow1
  go_wp2
  go_loopg [8, 9] (l.length + 1) (fun m v8 v9 wr => ∃ (bs : List Bool) (ls : List Nat) (k : Nat) (done : Nat → Prop), m = l.length + 1 - k ∧ v9 = .int .i64 k ∧ k ≤ ls.length ∧ Srch l t i bs done (ls.drop k) ∧ RSt w wr l g v8 bs ls)
  case atStart =>
    refine ⟨List.replicate l.length false, [i], 0, fun _ => False, rfl, rfl, by simp, Srch.start l t i hi, ?_⟩
    exact ⟨owns_new w1 (Nat.le_of_lt hs1) _ _ 1 1 rfl (by unfold maxLen; omega), R1.out.alloc _, C1.out.kp ((Kp.refl (fun _ => False) w1).alloc _) (fun h => h), by simp; omega, K1.out.alloc _⟩
  case round =>
    obtain ⟨bs, ls, k, done, hm, rfl, hk, hS, hR⟩ := hrel
    have HM : Hid (gk = l.length + 1 - k) := hm
    have HS : Hid (Srch l t i bs done (ls.drop k)) := hS
    have HR : Hid (RSt w wr l g u8 bs ls) := hR
    have hlen : ls.length ≤ l.length + 1 := by have := hR.cnt; omega
    clear hm hS R1 K1 C1
    have hpos : 0 < ls.length := by
      have h1 := HR.out.cnt
      have h2 := HS.out.len
      have h3 := List.count_le_length (a := false) (l := bs)
      omega
    obtain ⟨gl, capl, rfl, hgl, hgl2⟩ := hR.own.form hpos
    clear hR
    by_cases hk' : k < ls.length
    · obtain ⟨x, hx⟩ : ∃ x, ls[k]? = some x := ⟨ls[k], by simp [hk']⟩
      have hxq : x ∈ ls.drop k := by
        rw [List.mem_iff_getElem?]
        exact ⟨0, by simp [hx]⟩
      have hxl : x < l.length := HS.out.lt x hxq
      obtain ⟨v, hv⟩ : ∃ v, l[x]? = some v := ⟨l[x], by simp [hxl]⟩
      have cat : wr.cell? ⟨gl, k, none⟩ = some (.int .i64 x) := owns_cell HR.out.own k (by simp [intsV, hx])
      have cop : wr.cell? ⟨g, x * 14, none⟩ = some (.int .i64 v.op) := (HR.out.code.ins x v hv).cells.1
      have HX : Hid (ls[k]? = some x) := hx
      have HV : Hid (l[x]? = some v) := hv
      have HQ : Hid (x ∈ ls.drop k) := hxq
      clear hx hv hxq
      by_cases h0 : v.op = 0 ∧ t = false
      · obtain ⟨h0, rfl⟩ := h0
        rw [h0] at cop
        go_wp2
        go_roundg (l.length - k)
        case measure => rw [HM.out]; omega
        case rel =>
          refine ⟨bs, ls, k + 1, _, by omega, by simp, by omega, (HS.out.next HX.out).left (fun j hj => absurd hj (edge_take HV.out h0 j)), HR.out⟩
      · have h0' : v.op = 0 → t = true := by
          intro e
          cases t with
          | true => rfl
          | false => exact absurd ⟨e, rfl⟩ h0
        have hab := (hA x v HV.out).1
        have ha : 0 ≤ v.a ∧ 0 ≤ v.b := by
          simp only [insIsB, Bool.and_eq_true, decide_eq_true_eq] at hab
          omega
        have hb : (v.op == 0 && !t) = false := by
          cases t with
          | true => simp
          | false => simp; intro e; exact h0 ⟨e, rfl⟩
        clear hab h0
        have HL : Hid (Leav l t i bs done (ls.drop (k + 1)) x []) := HS.out.next HX.out
        have hedge : Hid (∀ j, Edge l t x j ↔ j ∈ nxt v x) := fun j => edge_of HV.out h0'
        have hnl : Hid (∀ j ∈ nxt v x, j < l.length) := nxt_lt hA HV.out
        have hcase : (v.op == 0) = true ∧ t = true ∨ (v.op == 0) = false := by
          cases e : (v.op == 0) with
          | false => exact Or.inr rfl
          | true => exact Or.inl ⟨rfl, h0' (by simpa using e)⟩
        clear h0' hb
        rcases hcase with ⟨hq, rfl⟩ | hq
        all_goals
          go_wp2_with fail
          refine (stepsR_any g l.length cap x v l wr HR.out.code HV.out hn ha.1 ha.2).mono ?_
          rintro e w2 hnext
          obtain ⟨p, rfl, hK2, hp⟩ := hnext.form
          have hn2 := nxt_len v x
          generalize hnx : nxt v x = nx at hp hedge hnl hn2
          clear hnext hnx cat cop
          have HR2 : Hid (RSt w w2 l g (.slice (some ⟨gl, 0, none⟩) ls.length capl) bs ls) := ⟨owns_kp HR.out.own hK2 (fun _ _ h => h), HR.out.row.kp hK2 (fun h => h), HR.out.code.kp hK2 (fun h => h), HR.out.cnt, HR.out.nw.trans hK2⟩
          have HP : Hid (¬ nx = [] → ∃ gn, p = some ⟨gn, 0, none⟩ ∧ ¬ w.heap.size = gn ∧ ¬ gl = gn ∧ IntsAt w2 gn nx) := by
            intro hne
            obtain ⟨gn, e1, e2, e3⟩ := hp hne
            have := HR.out.row.lt
            exact ⟨gn, e1, by omega, by omega, e3⟩
          clear hp hK2
          go_wp2
          go_loopg [8, 12] nx.length (fun m v8 v12 wr => ∃ (bs : List Bool) (ls : List Nat) (j : Nat), m = nx.length - j ∧ v12 = .int .i64 j ∧ j ≤ nx.length ∧ k < ls.length ∧ Leav l _ i bs done (ls.drop (k + 1)) x (nx.take j) ∧ RSt w wr l g v8 bs ls ∧ (¬ nx = [] → ∃ gn, p = some ⟨gn, 0, none⟩ ∧ ¬ w.heap.size = gn ∧ ¬ v8.ownBlock = some gn ∧ IntsAt wr gn nx))
          case atStart =>
            refine ⟨bs, ls, 0, rfl, rfl, by omega, hk', HL.out, HR2.out, fun hne => ?_⟩
            obtain ⟨gn, e1, e2, e3, e4⟩ := HP.out hne
            exact ⟨gn, e1, e2, by simp [Value.ownBlock]; exact e3, e4⟩
          case round =>
            obtain ⟨bs2, ls2, j, hm2, rfl, hj, hk2, hL2, hR2, hp2⟩ := hrel
            obtain ⟨gl2, capl2, hu8, hgl', hgl2'⟩ := hR2.own.form (by omega)
            subst hu8
            have HL2 : Hid (Leav l _ i bs2 done (ls2.drop (k + 1)) x (nx.take j)) := hL2
            have HR3 : Hid (RSt w _ l g (.slice (some ⟨gl2, 0, none⟩) ls2.length capl2) bs2 ls2) := hR2
            have hlen2 : ls2.length ≤ l.length + 1 := by have := hR2.cnt; omega
            clear hL2
            by_cases hj' : j < nx.length
            · obtain ⟨y, hy⟩ : ∃ y, nx[j]? = some y := ⟨nx[j], by simp [hj']⟩
              have hyl : y < l.length := hnl.out y (List.mem_of_getElem? hy)
              obtain ⟨gn, rfl, hg1, hg2, hint⟩ := hp2 (by intro e; rw [e] at hy; simp at hy)
              have hgo : ¬ gl2 = gn := by simpa [Value.ownBlock] using hg2
              obtain ⟨b, hb⟩ : ∃ b, bs2[y]? = some b := ⟨bs2[y]'(by rw [HL2.out.len]; exact hyl), by simp [HL2.out.len, hyl]⟩
              have cn : wr.cell? ⟨gn, j, none⟩ = some (.int .i64 y) := hint.2 j y hy
              have cb : wr.cell? ⟨w.heap.size, y, none⟩ = some (.bool b) := by rw [HR3.out.row.cell]; simp [hb]
              have fz : ∀ o, wr.frozen? ⟨w.heap.size, o, none⟩ = false := HR3.out.row.froz
              have hblen : y < bs2.length := by rw [HL2.out.len]; exact hyl
              have HB : Hid (bs2[y]? = some b) := hb
              have HY : Hid (nx[j]? = some y) := hy
              have HI : Hid (IntsAt wr gn nx) := hint
              have hrow : ¬ w.heap.size = gl2 := by
                have := owns_row_ne HR3.out.own HR3.out.row (by decide)
                simpa [Value.ownBlock] using this
              have hrow' : ¬ gl2 = w.heap.size := fun e => hrow e.symm
              have hg1' : ¬ gn = w.heap.size := fun e => hg1 e.symm
              have hgn2 := hint.1
              have hsz : w.heap.size < wr.heap.size := HR3.out.row.lt
              clear hb hy hint hR2 hp2 hg2
              cases b with
              | true =>
                go_wp2
                go_roundg (nx.length - (j + 1))
                case measure => omega
                case rel =>
                  refine ⟨bs2, ls2, j + 1, rfl, by simp, by omega, hk2, ?_, HR3.out, fun _ => ⟨gn, rfl, hg1, by simpa [Value.ownBlock] using hgo, HI.out⟩⟩
                  rw [take_next HY.out]
                  exact HL2.out.skip HB.out
              | false =>
                have ks : Kp (fun b => b = w.heap.size) wr (wr.setCell ⟨w.heap.size, y, none⟩ (.bool true)) := (Kp.refl (fun b => b = w.heap.size) wr).setCell (p := ⟨w.heap.size, y, none⟩) (Or.inr rfl) _
                have O1 : Hid ((wr.setCell ⟨w.heap.size, y, none⟩ (.bool true)).ownsRow w.heap.size 3 1 (.slice (some ⟨gl2, 0, none⟩) ls2.length capl2) ls2.length (intsV ls2)) := owns_kp HR3.out.own ks (by intro b hb; simp [Value.ownBlock] at hb; subst hb; exact hrow')
                have KS : Hid (Kp (fun b => b = w.heap.size) wr (wr.setCell ⟨w.heap.size, y, none⟩ (.bool true))) := ks
                clear ks
                go_wp2_with (at_builtin; refine wpList_append_lies _ rfl _ _ 73 rfl w.heap.size 3 i1 (.int .i64 0) 1 8 Tryz.underlying73 hi1 hy0 hy1 hy2 rfl (by decide) _ _ _ rfl (O1.out.alloc _) ⟨wr.heap.size, 0, none⟩ 1 1 [.int .i64 (y : Int)] rfl rfl ?c1 ?c2 (by decide) ?c3 ?c4 ?c5 _ rfl ?_)
                case c1 => exact news_one _ (by simp) _ _
                case c2 => exact intsV_one [y]
                case c3 => unfold maxLen; omega
                case c4 => omega
                case c5 => simp; omega
                · intro g3 cap3 w3 hown3 hgrow hat hlt
                  have kg : Kp (fun b => b = w.heap.size ∨ b = gl2) wr w3 := ((KS.out.mono (fun _ _ e => Or.inl e)).alloc _).grown hgrow (by intro b hb; simp [Value.ownBlock] at hb; exact Or.inr (Or.inr hb.symm))
                  have R3 : Hid (RSt w w3 l g (.slice (some ⟨g3, 0, none⟩) (ls2.length + 1) cap3) (bs2.set y true) (ls2 ++ [y])) := by
                    refine ⟨?_, ?_, HR3.out.code.kp kg (by intro e; omega), ?_, HR3.out.nw.trans' kg (by intro b hb e; omega)⟩
                    · have e1 : (ls2 ++ [y]).length = ls2.length + 1 := by simp
                      have e2 : intsV (ls2 ++ [y]) = intsV ls2 ++ [.int .i64 (y : Int)] := by simp [intsV]
                      rw [e1, e2]; exact hown3
                    · have := ((HR3.out.row.set y (.bool true)).alloc (.cells #[.int .i64 (y : Int)] 3)).grown hgrow (by simp [Value.ownBlock]; exact hrow)
                      rw [List.map_set]; exact this
                    · have := count_set HB.out
                      have := HR3.out.cnt
                      simp; omega
                  have I3 : Hid (IntsAt w3 gn nx) := HI.out.kp kg (by intro e; omega)
                  have hg3 : ¬ g3 = gn := by
                    rcases hat with e | e
                    · simp [Value.ownBlock] at e; omega
                    · omega
                  clear hown3 hgrow hat kg
                  go_wp2
                  go_roundg (nx.length - (j + 1))
                  case measure => omega
                  case rel =>
                    refine ⟨bs2.set y true, ls2 ++ [y], j + 1, rfl, by simp, by omega, by simp; omega, ?_, ?_, fun _ => ⟨gn, rfl, hg1, by simpa [Value.ownBlock] using hg3, I3.out⟩⟩
                    · rw [take_next HY.out, drop_push hk2]
                      exact HL2.out.mark ((hedge.out y).2 (List.mem_of_getElem? HY.out)) hyl
                    · exact R3.out
            · go_wp2
              go_roundg (l.length - k)
              case measure => rw [HM.out]; omega
              case rel =>
                refine ⟨bs2, ls2, k + 1, _, by omega, by simp, by omega, HL2.out.left (fun y hy => ?_), HR3.out⟩
                rw [List.take_of_length_le (by omega)]
                exact (hedge.out y).1 hy
    · go_wp2
      go_ret
      refine ⟨bs, rfl, HR.out.row, HS.out.len, ?_, HR.out.nw⟩
      have e1 : ls.drop k = [] := by apply List.drop_eq_nil_of_le; omega
      have := HS.out
      rw [e1] at this
      exact this.over
end Go.Proofs.YtcboiapggnmpfaaGreat
