/- Closed facts on the row of Valids, one by one (together they are beyond the memory lid over this program). -/
import Derived.Test.YtcboiapggnmpfaaGreatRows
import Derived.JoinedOf
import Derived.KernelRfl
namespace Go.Proofs.YtcboiapggnmpfaaGreat
theorem vf_inPlace : (Rows.validsRow.inPlace == Tryz.pinned.checked.prog.inPlace 5) = true := by kernel_rfl
theorem vf_unfollowed : (Rows.validsRow.unfollowed == Tryz.pinned.checked.prog.unfollowed 5) = true := by kernel_rfl
theorem vf_recurses : (Rows.validsRow.recurses == Tryz.pinned.checked.prog.recurses 5) = true := by kernel_rfl
theorem vf_named : (Rows.validsRow.named == Tryz.pinned.checked.prog.varsNamed 5) = true := by kernel_rfl
theorem vf_closed : joinedFacts Tryz.pinned.checked.prog 5 Tryz.f5 Rows.validsSpec Rows.validsRow = true := by
  unfold joinedFacts
  rw [vf_inPlace, vf_unfollowed, vf_recurses, vf_named]
  kernel_rfl
end Go.Proofs.YtcboiapggnmpfaaGreat
