/-
  DERIVED. GIVEN WITH THE SEED: THE CARDS: each row of YtcboiapggnmpfaaGreatDoorRows.lean that lists a variable, with what it lists TIED to the program's text (the seventh form; the later family's looks); each row that meets fmt, with fmt's text TOLD by the authors' own Lean function (tested against real Go, not proved from fmt's source: count such statements apart). THE CARD IS WHAT COUNTS. Prove the row's statement (the work); the ties are given (YtcboiapggnmpfaaGreatDoorTie.lean); close each card by the builder's one call (the guide's Derived/Test/ToyasCard.lean, 'card_holds'). Laid BY PROGRAM, IN A SANDBOX (cutbox-door.mjs). By AI agents, Wed Nov 11 2026. No macro, syntax, notation, axiom, sorry.
-/
import Derived.Test.YtcboiapggnmpfaaGreatDoorRows
import GoSem.ClaimSeven
namespace Go.Proofs.YtcboiapggnmpfaaGreatDoor
namespace Rows

/-- THE TIED CARD OF 'spotterkeep.Pairs'. -/
def pairsCard : Claim7 := { stood := { row := pairsRow, standIns := [], harness := (true, "95c384d7a176df5f31d4cabd06160b882797de60e421ecd4d3403d4df1210a3b"), looks := false }, kinds := [], alts := [], laidByText := true, laidKinds := [.data, .data, .data], laidTests := true, laidLooks := .later }
def PairsCardSaid : Prop := Claim7.holds Tryz.pinned (.plain (OpenSpec.ofChange pairsSpec)) pairsCard

/-- THE TIED CARD OF 'spotterkeep.Repeated'. -/
def repeatedCard : Claim7 := { stood := { row := repeatedRow, standIns := [], harness := (true, "95c384d7a176df5f31d4cabd06160b882797de60e421ecd4d3403d4df1210a3b"), looks := false }, kinds := [], alts := [], laidByText := true, laidKinds := [.data, .data, .data], laidTests := true, laidLooks := .later }
def RepeatedCardSaid : Prop := Claim7.holds Tryz.pinned (.plain (OpenSpec.ofChange repeatedSpec)) repeatedCard

/-- THE SECOND FORM's CARD OF 'spotterkeep.Pairs'. -/
def pairsUptoCard : Claim7 := { stood := { row := pairsUptoRow, standIns := [], harness := (true, "95c384d7a176df5f31d4cabd06160b882797de60e421ecd4d3403d4df1210a3b"), looks := false }, kinds := [], alts := [], laidByText := true, laidKinds := [.data, .data, .data], laidTests := true, laidLooks := .later }
def PairsUptoCardSaid : Prop := Claim7.holds Tryz.pinned (.plain (OpenSpec.upto pairsSpec)) pairsUptoCard

/-- THE SECOND FORM's CARD OF 'spotterkeep.Repeated'. -/
def repeatedUptoCard : Claim7 := { stood := { row := repeatedUptoRow, standIns := [], harness := (true, "95c384d7a176df5f31d4cabd06160b882797de60e421ecd4d3403d4df1210a3b"), looks := false }, kinds := [], alts := [], laidByText := true, laidKinds := [.data, .data, .data], laidTests := true, laidLooks := .later }
def RepeatedUptoCardSaid : Prop := Claim7.holds Tryz.pinned (.plain (OpenSpec.upto repeatedSpec)) repeatedUptoCard
end Rows
end Go.Proofs.YtcboiapggnmpfaaGreatDoor
