/- Closed facts on the row of Checks, one by one (together they are beyond the memory lid over this program). -/
import Derived.Test.YtcboiapggnmpfaaGreatRows
import Derived.JoinedOf
import Derived.KernelRfl
namespace Go.Proofs.YtcboiapggnmpfaaGreat
theorem cf_inPlace : (Rows.checksRow.inPlace == Tryz.pinned.checked.prog.inPlace 3) = true := by kernel_rfl
theorem cf_unfollowed : (Rows.checksRow.unfollowed == Tryz.pinned.checked.prog.unfollowed 3) = true := by kernel_rfl
theorem cf_recurses : (Rows.checksRow.recurses == Tryz.pinned.checked.prog.recurses 3) = true := by kernel_rfl
theorem cf_named : (Rows.checksRow.named == Tryz.pinned.checked.prog.varsNamed 3) = true := by kernel_rfl
theorem cf_closed : joinedFacts Tryz.pinned.checked.prog 3 Tryz.f3 Rows.checksSpec Rows.checksRow = true := by
  unfold joinedFacts
  rw [cf_inPlace, cf_unfollowed, cf_recurses, cf_named]
  kernel_rfl
end Go.Proofs.YtcboiapggnmpfaaGreat
