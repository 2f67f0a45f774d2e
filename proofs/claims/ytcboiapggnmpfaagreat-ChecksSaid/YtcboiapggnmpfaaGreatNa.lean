/- Walks: spotterlaw: checked; a script of Checks. -/
import Derived.Test.YtcboiapggnmpfaaGreatQz
import Derived.Test.YtcboiapggnmpfaaGreatXc
import Derived.Test.YtcboiapggnmpfaaGreatQv
namespace Go.Proofs.YtcboiapggnmpfaaGreat
open Go.RowKit
set_option linter.unusedSimpArgs false
set_option linter.unusedVariables false

/-- What is asked of the program's Check and of the document's. -/
def ChecksOk (F : FuncId) : Prop := ∀ (sc s : ByteArray) (w : World), sc.size ≤ maxLen → s.size ≤ maxLen → Calls Tryz.prog F #[.string sc, .string s] w (CheckSPost sc s w)
set_option maxRecDepth 100000 in
set_option maxHeartbeats 1000000 in
theorem checked_any (h1 : ChecksOk 20) (h2 : ChecksOk 64) (sc s : ByteArray) (w : World) (hsc : sc.size ≤ maxLen) (hs : s.size ≤ maxLen) :
    Calls Tryz.prog 34 #[.string sc, .string s] w fun e w' => e = .returned (.bool true) ∧ Nw w w' := by
  have HSC : Hid (sc.size ≤ maxLen) := hsc
  have HS : Hid (s.size ≤ maxLen) := hs
  clear hsc hs
  go_enter Tryz.func34, Tryz.ntmps34
  go_wp2_with fail
  refine (h1 sc s w HSC.out HS.out).mono ?_
  rintro e w1 ⟨f, p, rfl, k1, hf⟩
  have K1 : Hid (Nw w w1) := k1
  have HF : Hid (CheckIs sc s f p) := hf
  clear k1 hf
  go_wp2_with fail
  refine (h2 sc s w1 HSC.out HS.out).mono ?_
  rintro e w2 ⟨f', p', rfl, k2, hf'⟩
  obtain ⟨ef, ep⟩ := HF.out.uniq hf'
  subst ef
  subst ep
  have K2 : Hid (Nw w w2) := K1.out.trans k2
  clear k2 hf'
  go_wp2
  go_ret
  exact ⟨rfl, K2.out⟩
set_option maxRecDepth 100000 in
set_option maxHeartbeats 1000000 in
theorem step_check (h1 : ChecksOk 20) (h2 : ChecksOk 64) (X : Oth) (B n : Nat) (o : Opr) (w : World) (h : LSE X w B n) (hk : o.kind = 9) (hn : n ≤ 740000000000) : Calls Tryz.prog 14 #[.pointer (some ⟨B, 0, none⟩), opV o] w (OwnPost X w B n true) := by
  have HKK : Hid (o.kind = 9) := hk
  clear hk
  have hh : Hid (∀ ob, LSE X (w.alloc ob) B n) := fun ob => h.nw ((Kp.refl _ _).alloc _)
  obtain ⟨d, hu, hd⟩ := Option.map_eq_some_iff.1 Tryz.row44
  have HU : Hid (Tryz.prog.underlying 44 = some d) := hu
  have HD : Hid (d.isRow = true) := hd
  have HC1 : Hid (ChecksOk 20) := h1
  have HC2 : Hid (ChecksOk 64) := h2
  clear hu hd h1 h2
  unfold opV
  go_enter Tryz.func14, Tryz.ntmps14
  go_wp2_with (first | (with_reducible (show Go.wpList _ _ _ ({ dst := _, op := Op.load _ _, type := _, pos := _, after := _, guard := _ } :: _) _ _); refine wpList_load_mid rfl 44 _ rfl w.heap.size 0 rfl (opC o) d (range_is w o _ rfl) HU.out HD.out (sizeO o) ?_) | fail)
  go_wp2_with fail
  refine (owner_off X B n o _ (hh.out _) (Or.inr (by rw [HKK.out]; omega))).mono ?_
  rintro e w1 ⟨rfl, h1, k1⟩
  obtain ⟨kk, hl, ⟨kc, kz⟩⟩ := k1.box (fun h => h)
  have K1 : Hid (Nw w w1) := kk
  obtain ⟨s, t, la, lb, cv, l, vs, F, h1⟩ := h1
  have H1 : Hid (LS X w1 B n s t la lb cv l vs F) := h1
  have c0 := h1.lw.c0
  have c1 := h1.lw.c1
  have k0 : w1.cell? ⟨w.heap.size, 0, none⟩ = some (.int .i64 9) := by
    rw [kc 0, World.cell?_alloc_at (w := w) _ _ _ _ rfl, ← HKK.out]; rfl
  clear kc kz
  clear kk k1 h1
  have hlB := H1.out.lw.lt
  have HSW : Hid (∀ W, Nw w1 W → (W.cell? ⟨B, 0, none⟩ = some (.string s) ∧ W.cell? ⟨B, 1, none⟩ = some (.string t))) := fun W kW => ⟨(kW.cell hlB (fun h => h)).trans c0, (kW.cell hlB (fun h => h)).trans c1⟩
  have HCC : Hid (∀ W, Calls Tryz.prog 34 #[.string s, .string t] W fun e w' => e = .returned (.bool true) ∧ Nw W w') := fun W => checked_any HC1.out HC2.out s t W H1.out.hs H1.out.ht
  go_wp2
  go_region_held3 (fun w' => w'.cell? ⟨B, 0, none⟩ = some (.string s) ∧ w'.cell? ⟨B, 1, none⟩ = some (.string t)) (first | exact HSW.out _ (Kp.refl _ _) | exact HSW.out _ ((Kp.refl _ _).drewN _) | exact HSW.out _ (((Kp.refl _ _).drewN _).trans k9) | exact HSW.out _ k9)
    ((first | (go_at_call 34; refine (HCC.out _).mono ?_; rintro e9 w9 ⟨rfl, k9⟩)))
  all_goals
    have K9 : Hid (Nw w1 w9) := by first | exact k9 | exact ((Kp.refl _ _).drewN _).trans k9
    clear k9 k0 c0 c1 HSW HCC
    go_wp2
    go_ret
    exact ⟨rfl, ⟨_, _, _, _, _, _, _, _, H1.out.nw K9.out⟩, (K1.out.trans K9.out).mono (fun _ _ h => False.elim h)⟩
theorem checksV (hC : CompileOk) (h1 : ChecksOk 20) (h2 : ChecksOk 64) (p : Option Addr) (cap : Nat) (os : List Opr) (w : World) (hp : OpsP w p os) (hf : ∀ o ∈ os, o.Fit) (hm : os.length ≤ 740000000000) :
    Calls Tryz.prog 3 #[.slice p os.length cap] w fun e w' => e = .returned (.bool true) ∧ Nw w w' := by
  have hS : StepsOk Oth.no 9 9 9 := fun B n o w h hk hf hn => (step_check h1 h2 Oth.no B n o w h (by omega) hn).mono (fun _ _ h => h.up)
  go_enter Tryz.func3, Tryz.ntmps3
  go_wp2_with fail
  refine (plays_any hC Oth.no marksOk_no looksOk_no 9 9 9 hS p cap os w hp hf hm).mono ?_
  rintro e w1 ⟨rfl, k1⟩
  go_wp2
  go_ret
  exact ⟨rfl, k1⟩
end Go.Proofs.YtcboiapggnmpfaaGreat
