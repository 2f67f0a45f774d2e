/-
  No cell of these rows narrows 'for every input' (looked for: loops, veiled, ifaces, maps, wideKeys, modest, calm, conditions, laid).
  DERIVED. THE GIVEN ROWS OF THIS SEAT. 10 by the template 'for every input the law returns true; each argument reads behind the call as it read before'; 0 by the template 'total and deterministic' (their statements: YtcboiapggnmpfaaGreatTotals.lean).
  GIVEN WITH THE SEED: the statements are not yours to turn. If you find one false, say at which input.
  Laid BY PROGRAM, IN A SANDBOX (cutbox-rows.mjs): the forced cells as the released guide's own fill.sh prints them over the translation f383366d70bad8e3… (all of the seat's roots in one cut). By AI agents, Wed Nov 11 2026. No macro, syntax, notation, axiom, sorry.
-/
import Derived.Test.YtcboiapggnmpfaaGreatChecked
import GoSem.Claim
import GoSem.ClaimJoined
import GoSem.ClaimMapViews
import Derived.JoinedTies
import Derived.KernelRfl
namespace Go.Proofs.YtcboiapggnmpfaaGreat
/- THE CELL 'sum', in the pinned program and in every row, IS THE sha256 OF THE DUMP (.gsa) THAT YtcboiapggnmpfaaGreatProg.lean LOADS. Nothing in Lean hashes anything: it is a label: what it is worth is what the hold of that sum in a sandbox is worth. -/
noncomputable def Tryz.pinned : Pinned := { name := "ytcboiapggnmpfaagreat", sum := "f383366d70bad8e3e3dc6e638454d2e8b06f45f018d03321776f1dcbd57ecdf3", checked := Tryz.checked }
namespace Rows
def none {H : Type} : Left H := { results := [], args := [] }

/-- 'spotterlaw.Checks': WHATEVER THE INPUT: true; the input reads as it did. -/
def checksSpec : ChangeSpec := { name := "checks", fn := fun _ => fun
  | [d] => { results := [.lit (.bool true)], args := [d] }
  | _ => none }
def checksRow : OpenClaim := { program := "ytcboiapggnmpfaagreat", sum := "f383366d70bad8e3e3dc6e638454d2e8b06f45f018d03321776f1dcbd57ecdf3", func := "spotter/spotterlaw.Checks", spec := "checks", recurses := true, apart := false }
def ChecksSaid : Prop := checksRow.holds Tryz.pinned (OpenSpec.ofChange checksSpec)

/-- ITS FALSE NEIGHBOUR: 'it returns false'. Refute it at one input. -/
def checksWrong : ChangeSpec := { name := "checks", fn := fun _ => fun
  | [d] => { results := [.lit (.bool false)], args := [d] }
  | _ => none }
def ChecksWrongFalsely : Prop := checksRow.holds Tryz.pinned (OpenSpec.ofChange checksWrong)

/-- 'spotterlaw.Compiles': WHATEVER THE INPUT: true; the input reads as it did. -/
def compilesSpec : ChangeSpec := { name := "compiles", fn := fun _ => fun
  | [d] => { results := [.lit (.bool true)], args := [d] }
  | _ => none }
def compilesRow : OpenClaim := { program := "ytcboiapggnmpfaagreat", sum := "f383366d70bad8e3e3dc6e638454d2e8b06f45f018d03321776f1dcbd57ecdf3", func := "spotter/spotterlaw.Compiles", spec := "compiles", recurses := true, apart := false }
def CompilesSaid : Prop := compilesRow.holds Tryz.pinned (OpenSpec.ofChange compilesSpec)

/-- ITS FALSE NEIGHBOUR: 'it returns false'. Refute it at one input. -/
def compilesWrong : ChangeSpec := { name := "compiles", fn := fun _ => fun
  | [d] => { results := [.lit (.bool false)], args := [d] }
  | _ => none }
def CompilesWrongFalsely : Prop := compilesRow.holds Tryz.pinned (OpenSpec.ofChange compilesWrong)

/-- 'spotterlaw.Valids': WHATEVER THE INPUT: true; the input reads as it did. -/
def validsSpec : ChangeSpec := { name := "valids", fn := fun _ => fun
  | [d] => { results := [.lit (.bool true)], args := [d] }
  | _ => none }
def validsRow : OpenClaim := { program := "ytcboiapggnmpfaagreat", sum := "f383366d70bad8e3e3dc6e638454d2e8b06f45f018d03321776f1dcbd57ecdf3", func := "spotter/spotterlaw.Valids", spec := "valids", recurses := true, apart := false }
def ValidsSaid : Prop := validsRow.holds Tryz.pinned (OpenSpec.ofChange validsSpec)

/-- ITS FALSE NEIGHBOUR: 'it returns false'. Refute it at one input. -/
def validsWrong : ChangeSpec := { name := "valids", fn := fun _ => fun
  | [d] => { results := [.lit (.bool false)], args := [d] }
  | _ => none }
def ValidsWrongFalsely : Prop := validsRow.holds Tryz.pinned (OpenSpec.ofChange validsWrong)

/-- 'spotterlaw.Trims': WHATEVER THE INPUT: true; the input reads as it did. -/
def trimsSpec : ChangeSpec := { name := "trims", fn := fun _ => fun
  | [d] => { results := [.lit (.bool true)], args := [d] }
  | _ => none }
def trimsRow : OpenClaim := { program := "ytcboiapggnmpfaagreat", sum := "f383366d70bad8e3e3dc6e638454d2e8b06f45f018d03321776f1dcbd57ecdf3", func := "spotter/spotterlaw.Trims", spec := "trims", recurses := true, apart := false }
def TrimsSaid : Prop := trimsRow.holds Tryz.pinned (OpenSpec.ofChange trimsSpec)

/-- ITS FALSE NEIGHBOUR: 'it returns false'. Refute it at one input. -/
def trimsWrong : ChangeSpec := { name := "trims", fn := fun _ => fun
  | [d] => { results := [.lit (.bool false)], args := [d] }
  | _ => none }
def TrimsWrongFalsely : Prop := trimsRow.holds Tryz.pinned (OpenSpec.ofChange trimsWrong)

/-- 'spotterlaw.Loads': WHATEVER THE INPUT: true; the input reads as it did. -/
def loadsSpec : ChangeSpec := { name := "loads", fn := fun _ => fun
  | [d] => { results := [.lit (.bool true)], args := [d] }
  | _ => none }
def loadsRow : OpenClaim := { program := "ytcboiapggnmpfaagreat", sum := "f383366d70bad8e3e3dc6e638454d2e8b06f45f018d03321776f1dcbd57ecdf3", func := "spotter/spotterlaw.Loads", spec := "loads", recurses := true, apart := false }
def LoadsSaid : Prop := loadsRow.holds Tryz.pinned (OpenSpec.ofChange loadsSpec)

/-- ITS FALSE NEIGHBOUR: 'it returns false'. Refute it at one input. -/
def loadsWrong : ChangeSpec := { name := "loads", fn := fun _ => fun
  | [d] => { results := [.lit (.bool false)], args := [d] }
  | _ => none }
def LoadsWrongFalsely : Prop := loadsRow.holds Tryz.pinned (OpenSpec.ofChange loadsWrong)

/-- 'spotterlaw.Finds': WHATEVER THE INPUT: true; the input reads as it did. -/
def findsSpec : ChangeSpec := { name := "finds", fn := fun _ => fun
  | [d] => { results := [.lit (.bool true)], args := [d] }
  | _ => none }
def findsRow : OpenClaim := { program := "ytcboiapggnmpfaagreat", sum := "f383366d70bad8e3e3dc6e638454d2e8b06f45f018d03321776f1dcbd57ecdf3", func := "spotter/spotterlaw.Finds", spec := "finds", recurses := true, apart := false }
def FindsSaid : Prop := findsRow.holds Tryz.pinned (OpenSpec.ofChange findsSpec)

/-- ITS FALSE NEIGHBOUR: 'it returns false'. Refute it at one input. -/
def findsWrong : ChangeSpec := { name := "finds", fn := fun _ => fun
  | [d] => { results := [.lit (.bool false)], args := [d] }
  | _ => none }
def FindsWrongFalsely : Prop := findsRow.holds Tryz.pinned (OpenSpec.ofChange findsWrong)

/-- 'spotterlaw.All': WHATEVER THE INPUT: true; the input reads as it did. -/
def allSpec : ChangeSpec := { name := "all", fn := fun _ => fun
  | [d] => { results := [.lit (.bool true)], args := [d] }
  | _ => none }
def allRow : OpenClaim := { program := "ytcboiapggnmpfaagreat", sum := "f383366d70bad8e3e3dc6e638454d2e8b06f45f018d03321776f1dcbd57ecdf3", func := "spotter/spotterlaw.All", spec := "all", recurses := true, apart := false }
def AllSaid : Prop := allRow.holds Tryz.pinned (OpenSpec.ofChange allSpec)

/-- ITS FALSE NEIGHBOUR: 'it returns false'. Refute it at one input. -/
def allWrong : ChangeSpec := { name := "all", fn := fun _ => fun
  | [d] => { results := [.lit (.bool false)], args := [d] }
  | _ => none }
def AllWrongFalsely : Prop := allRow.holds Tryz.pinned (OpenSpec.ofChange allWrong)

/-- 'spotterkeep.Known': WHATEVER THE INPUT: true; the input reads as it did. -/
def knownSpec : ChangeSpec := { name := "known", fn := fun _ => fun
  | [d] => { results := [.lit (.bool true)], args := [d] }
  | _ => none }
def knownRow : OpenClaim := { program := "ytcboiapggnmpfaagreat", sum := "f383366d70bad8e3e3dc6e638454d2e8b06f45f018d03321776f1dcbd57ecdf3", func := "spotter/spotterkeep.Known", spec := "known", recurses := true, apart := false }
def KnownSaid : Prop := knownRow.holds Tryz.pinned (OpenSpec.ofChange knownSpec)

/-- ITS FALSE NEIGHBOUR: 'it returns false'. Refute it at one input. -/
def knownWrong : ChangeSpec := { name := "known", fn := fun _ => fun
  | [d] => { results := [.lit (.bool false)], args := [d] }
  | _ => none }
def KnownWrongFalsely : Prop := knownRow.holds Tryz.pinned (OpenSpec.ofChange knownWrong)

/-- 'spotterkeep.Wide': WHATEVER THE INPUT: true; the input reads as it did. -/
def wideSpec : ChangeSpec := { name := "wide", fn := fun _ => fun
  | [d1, d2, d3, d4, d5] => { results := [.lit (.bool true)], args := [d1, d2, d3, d4, d5] }
  | _ => none }
def wideRow : OpenClaim := { program := "ytcboiapggnmpfaagreat", sum := "f383366d70bad8e3e3dc6e638454d2e8b06f45f018d03321776f1dcbd57ecdf3", func := "spotter/spotterkeep.Wide", spec := "wide", recurses := true, apart := false }
def WideSaid : Prop := wideRow.holds Tryz.pinned (OpenSpec.ofChange wideSpec)

/-- ITS FALSE NEIGHBOUR: 'it returns false'. Refute it at one input. -/
def wideWrong : ChangeSpec := { name := "wide", fn := fun _ => fun
  | [d1, d2, d3, d4, d5] => { results := [.lit (.bool false)], args := [d1, d2, d3, d4, d5] }
  | _ => none }
def WideWrongFalsely : Prop := wideRow.holds Tryz.pinned (OpenSpec.ofChange wideWrong)

/-- 'spotterkeep.Chosen': WHATEVER THE INPUT: true; the input reads as it did. -/
def chosenSpec : ChangeSpec := { name := "chosen", fn := fun _ => fun
  | [d1, d2, d3] => { results := [.lit (.bool true)], args := [d1, d2, d3] }
  | _ => none }
def chosenRow : OpenClaim := { program := "ytcboiapggnmpfaagreat", sum := "f383366d70bad8e3e3dc6e638454d2e8b06f45f018d03321776f1dcbd57ecdf3", func := "spotter/spotterkeep.Chosen", spec := "chosen", recurses := true, apart := false }
def ChosenSaid : Prop := chosenRow.holds Tryz.pinned (OpenSpec.ofChange chosenSpec)

/-- ITS FALSE NEIGHBOUR: 'it returns false'. Refute it at one input. -/
def chosenWrong : ChangeSpec := { name := "chosen", fn := fun _ => fun
  | [d1, d2, d3] => { results := [.lit (.bool false)], args := [d1, d2, d3] }
  | _ => none }
def ChosenWrongFalsely : Prop := chosenRow.holds Tryz.pinned (OpenSpec.ofChange chosenWrong)

/- THE SECOND FORM. 'bulk': how many values and letters a reading holds, each counted each time it is reached (what is shared counts as often as it is met; a slice's spare places count too). A statement '..UptoSaid' is the law's where the arguments, and the package variables that the reading takes, are together of bulk at most 1048576: NARROWER than '..Said'. Prove '..Said' where nothing that the law and all that it calls make is longer than what came in: it says more and counts as full. Else prove '..UptoSaid'. A law counts once. -/
mutual
def uptoBulk {H : Type} : DataW H → Nat
  | .lit (.string bytes) => bytes.length + 1
  | .lit _ => 1
  | .nil => 1
  | .ptr d => uptoBulk d + 1
  | .slice elems spare => uptoBulkAll elems + uptoBulkAll spare + 1
  | .agg parts => uptoBulkAll parts + 1
  | .iface _ d => uptoBulk d + 1
  | .map entries => uptoBulkEntries entries + 1
  | .held _ => 1
def uptoBulkAll {H : Type} : List (DataW H) → Nat
  | [] => 0
  | d :: r => uptoBulk d + uptoBulkAll r
def uptoBulkEntries {H : Type} : List (Lit × DataW H) → Nat
  | [] => 0
  | x :: r => uptoBulkEntry x + uptoBulkEntries r
def uptoBulkEntry {H : Type} : Lit × DataW H → Nat
  | (.string bytes, d) => bytes.length + uptoBulk d + 1
  | (_, d) => uptoBulk d + 1
 end
def uptoSmall : (H : Type) → List (DataW H) → Bool := fun _ ds => decide (uptoBulkAll ds ≤ 1048576)
def OpenSpec.upto (s : _root_.Go.ChangeSpec) : _root_.Go.OpenSpec := { _root_.Go.OpenSpec.ofChange s with cond := some uptoSmall }

/-- 'spotterlaw.Checks', WHERE WHAT IT READS IS OF BULK AT MOST 1048576: true; the input reads as it did. -/
def checksUptoRow : OpenClaim := { program := "ytcboiapggnmpfaagreat", sum := "f383366d70bad8e3e3dc6e638454d2e8b06f45f018d03321776f1dcbd57ecdf3", func := "spotter/spotterlaw.Checks", spec := "checks", recurses := true, apart := false, narrowed := true }
def ChecksUptoSaid : Prop := checksUptoRow.holds Tryz.pinned (OpenSpec.upto checksSpec)

/-- 'spotterlaw.Compiles', WHERE WHAT IT READS IS OF BULK AT MOST 1048576: true; the input reads as it did. -/
def compilesUptoRow : OpenClaim := { program := "ytcboiapggnmpfaagreat", sum := "f383366d70bad8e3e3dc6e638454d2e8b06f45f018d03321776f1dcbd57ecdf3", func := "spotter/spotterlaw.Compiles", spec := "compiles", recurses := true, apart := false, narrowed := true }
def CompilesUptoSaid : Prop := compilesUptoRow.holds Tryz.pinned (OpenSpec.upto compilesSpec)

/-- 'spotterlaw.Valids', WHERE WHAT IT READS IS OF BULK AT MOST 1048576: true; the input reads as it did. -/
def validsUptoRow : OpenClaim := { program := "ytcboiapggnmpfaagreat", sum := "f383366d70bad8e3e3dc6e638454d2e8b06f45f018d03321776f1dcbd57ecdf3", func := "spotter/spotterlaw.Valids", spec := "valids", recurses := true, apart := false, narrowed := true }
def ValidsUptoSaid : Prop := validsUptoRow.holds Tryz.pinned (OpenSpec.upto validsSpec)

/-- 'spotterlaw.Trims', WHERE WHAT IT READS IS OF BULK AT MOST 1048576: true; the input reads as it did. -/
def trimsUptoRow : OpenClaim := { program := "ytcboiapggnmpfaagreat", sum := "f383366d70bad8e3e3dc6e638454d2e8b06f45f018d03321776f1dcbd57ecdf3", func := "spotter/spotterlaw.Trims", spec := "trims", recurses := true, apart := false, narrowed := true }
def TrimsUptoSaid : Prop := trimsUptoRow.holds Tryz.pinned (OpenSpec.upto trimsSpec)

/-- 'spotterlaw.Loads', WHERE WHAT IT READS IS OF BULK AT MOST 1048576: true; the input reads as it did. -/
def loadsUptoRow : OpenClaim := { program := "ytcboiapggnmpfaagreat", sum := "f383366d70bad8e3e3dc6e638454d2e8b06f45f018d03321776f1dcbd57ecdf3", func := "spotter/spotterlaw.Loads", spec := "loads", recurses := true, apart := false, narrowed := true }
def LoadsUptoSaid : Prop := loadsUptoRow.holds Tryz.pinned (OpenSpec.upto loadsSpec)

/-- 'spotterlaw.Finds', WHERE WHAT IT READS IS OF BULK AT MOST 1048576: true; the input reads as it did. -/
def findsUptoRow : OpenClaim := { program := "ytcboiapggnmpfaagreat", sum := "f383366d70bad8e3e3dc6e638454d2e8b06f45f018d03321776f1dcbd57ecdf3", func := "spotter/spotterlaw.Finds", spec := "finds", recurses := true, apart := false, narrowed := true }
def FindsUptoSaid : Prop := findsUptoRow.holds Tryz.pinned (OpenSpec.upto findsSpec)

/-- 'spotterlaw.All', WHERE WHAT IT READS IS OF BULK AT MOST 1048576: true; the input reads as it did. -/
def allUptoRow : OpenClaim := { program := "ytcboiapggnmpfaagreat", sum := "f383366d70bad8e3e3dc6e638454d2e8b06f45f018d03321776f1dcbd57ecdf3", func := "spotter/spotterlaw.All", spec := "all", recurses := true, apart := false, narrowed := true }
def AllUptoSaid : Prop := allUptoRow.holds Tryz.pinned (OpenSpec.upto allSpec)

/-- 'spotterkeep.Known', WHERE WHAT IT READS IS OF BULK AT MOST 1048576: true; the input reads as it did. -/
def knownUptoRow : OpenClaim := { program := "ytcboiapggnmpfaagreat", sum := "f383366d70bad8e3e3dc6e638454d2e8b06f45f018d03321776f1dcbd57ecdf3", func := "spotter/spotterkeep.Known", spec := "known", recurses := true, apart := false, narrowed := true }
def KnownUptoSaid : Prop := knownUptoRow.holds Tryz.pinned (OpenSpec.upto knownSpec)

/-- 'spotterkeep.Wide', WHERE WHAT IT READS IS OF BULK AT MOST 1048576: true; the input reads as it did. -/
def wideUptoRow : OpenClaim := { program := "ytcboiapggnmpfaagreat", sum := "f383366d70bad8e3e3dc6e638454d2e8b06f45f018d03321776f1dcbd57ecdf3", func := "spotter/spotterkeep.Wide", spec := "wide", recurses := true, apart := false, narrowed := true }
def WideUptoSaid : Prop := wideUptoRow.holds Tryz.pinned (OpenSpec.upto wideSpec)

/-- 'spotterkeep.Chosen', WHERE WHAT IT READS IS OF BULK AT MOST 1048576: true; the input reads as it did. -/
def chosenUptoRow : OpenClaim := { program := "ytcboiapggnmpfaagreat", sum := "f383366d70bad8e3e3dc6e638454d2e8b06f45f018d03321776f1dcbd57ecdf3", func := "spotter/spotterkeep.Chosen", spec := "chosen", recurses := true, apart := false, narrowed := true }
def ChosenUptoSaid : Prop := chosenUptoRow.holds Tryz.pinned (OpenSpec.upto chosenSpec)

end Rows
end Go.Proofs.YtcboiapggnmpfaaGreat
