/- Walks: spotterlaw: valid. -/
import Derived.Test.YtcboiapggnmpfaaGreatQk
import Derived.Test.YtcboiapggnmpfaaGreatLc
import Derived.Test.YtcboiapggnmpfaaGreatVn
namespace Go.Proofs.YtcboiapggnmpfaaGreat
open Go.RowKit
set_option linter.unusedSimpArgs false
set_option linter.unusedVariables false

set_option maxRecDepth 100000 in
set_option maxHeartbeats 1000000 in
theorem valid_any (p : Option Addr) (cap : Nat) (l : List In) (w : World) (hp : CodeP w p l) (hm : l.length ≤ 800000000000) :
    Calls Tryz.prog 37 #[.slice p l.length cap] w fun e w' => e = .returned (.bool true) ∧ Nw w w' := by
  have hm' : l.length ≤ maxLen := by unfold maxLen; omega
  go_enter Tryz.func37, Tryz.ntmps37
  go_wp2_with fail
  refine (handed_any p cap l w hp hm).mono ?_
  rintro e w1 ⟨rfl, hrow, k1⟩
  have hlt := hrow.lt
  have C1 : Hid (Code' w1 w.heap.size (l ++ [mk1, mk2])) := Code'.of_cells hlt (fun j v hv => by rw [hrow.cell]; exact hv)
  have P1 : Hid (CodeP w1 p l) := hp.nw k1
  have K1 : Hid (Nw w w1) := k1
  have Q1 : Hid (CodeP w1 (some ⟨w.heap.size, 0, none⟩) l) := by
    intro _
    refine ⟨w.heap.size, rfl, hlt, fun i x hx => C1.out.ins i x ?_⟩
    rw [List.getElem?_append_left (List.getElem?_eq_some_iff.1 hx).1]; exact hx
  clear hrow k1 hp
  go_wp2_with fail
  refine (validS_any (some ⟨w.heap.size, 0, none⟩) (l.length + 2) l w1 Q1.out hm').mono ?_
  rintro e w2 ⟨a, b, rfl, hv, k2⟩
  have V2 : Hid (ValidIs l a b) := hv
  have C2 : Hid (Code' w2 w.heap.size (l ++ [mk1, mk2])) := C1.out.kp k2 (fun h => h)
  have P2 : Hid (CodeP w2 p l) := P1.out.nw k2
  have K2 : Hid (Nw w w2) := K1.out.trans k2
  clear hv k2 C1 P1 K1 Q1
  go_wp2_with fail
  refine (validR_any p cap l w2 P2.out hm').mono ?_
  rintro e w3 ⟨a', b', rfl, hv', k3⟩
  obtain ⟨ha, hb⟩ := V2.out.uniq hv'
  have C3 : Hid (Code' w3 w.heap.size (l ++ [mk1, mk2])) := C2.out.kp k3 (fun h => h)
  have P3 : Hid (CodeP w3 p l) := P2.out.nw k3
  have K3 : Hid (Nw w w3) := K2.out.trans k3
  subst ha
  subst hb
  clear hv' k3 C2 P2 K2 V2
  go_wp2_with fail
  refine (still_same w.heap.size cap p l w3 C3.out P3.out hm).mono ?_
  rintro e w4 ⟨rfl, k4⟩
  have K4 : Hid (Nw w w4) := K3.out.trans k4
  clear k4
  go_wp2
  go_ret
  exact ⟨rfl, K4.out⟩
end Go.Proofs.YtcboiapggnmpfaaGreat
