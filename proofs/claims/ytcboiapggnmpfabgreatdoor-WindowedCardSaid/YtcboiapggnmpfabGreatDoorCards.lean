/-
  DERIVED. GIVEN WITH THE SEED: THE CARDS: each row of YtcboiapggnmpfabGreatDoorRows.lean that lists a variable, with what it lists TIED to the program's text (the seventh form; the later family's looks); each row that meets fmt, with fmt's text TOLD by the authors' own Lean function (tested against real Go, not proved from fmt's source: count such statements apart). THE CARD IS WHAT COUNTS. Prove the row's statement (the work); the ties are given (YtcboiapggnmpfabGreatDoorTie.lean); close each card by the builder's one call (the guide's Derived/Test/ToyasCard.lean, 'card_holds'). Laid BY PROGRAM, IN A SANDBOX (cutbox-door.mjs). By AI agents, Wed Nov 11 2026. No macro, syntax, notation, axiom, sorry.
-/
import Derived.Test.YtcboiapggnmpfabGreatDoorRows
import GoSem.ClaimSeven
namespace Go.Proofs.YtcboiapggnmpfabGreatDoor
namespace Rows

/-- THE TIED CARD OF 'spotterkeep.Windowed'. -/
def windowedCard : Claim7 := { stood := { row := windowedRow, standIns := [], harness := (true, "bfc52cfd3e6b947d4d0fbdb68280615d9ca79aec017d5601de4ba977ecba6e4a"), looks := false }, kinds := [], alts := [], laidByText := true, laidKinds := [.data, .data, .data], laidTests := true, laidLooks := .later }
def WindowedCardSaid : Prop := Claim7.holds Tryz.pinned (.plain (OpenSpec.ofChange windowedSpec)) windowedCard

/-- THE SECOND FORM's CARD OF 'spotterkeep.Windowed'. -/
def windowedUptoCard : Claim7 := { stood := { row := windowedUptoRow, standIns := [], harness := (true, "bfc52cfd3e6b947d4d0fbdb68280615d9ca79aec017d5601de4ba977ecba6e4a"), looks := false }, kinds := [], alts := [], laidByText := true, laidKinds := [.data, .data, .data], laidTests := true, laidLooks := .later }
def WindowedUptoCardSaid : Prop := Claim7.holds Tryz.pinned (.plain (OpenSpec.upto windowedSpec)) windowedUptoCard
end Rows
end Go.Proofs.YtcboiapggnmpfabGreatDoor
