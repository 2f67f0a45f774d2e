/- The row of Valids. -/
import Derived.Test.YtcboiapggnmpfaaGreatCg
import Derived.Test.YtcboiapggnmpfaaGreatHf
import Derived.Test.YtcboiapggnmpfaaGreatLs
namespace Go.Proofs.YtcboiapggnmpfaaGreat

theorem stepOk_all : ∀ (P : CuP) (B : Nat) (L : List Tok) (root win : Int), StepOk P B L root win := fun P B L root win s u lo hy hS => atomStep_any P B L root win lo (lo + u.length) s u hy hS rfl
theorem compileOk_all : CompileOk := by
  intro s t w hs ht
  refine (compile_ref stepOk_all s t w hs ht).mono ?_
  rintro e w' ⟨h1, h2⟩
  exact ⟨h1, h2⟩
theorem valids_holds : Rows.ValidsSaid := valids_of compileOk_all
#print axioms valids_holds
end Go.Proofs.YtcboiapggnmpfaaGreat
