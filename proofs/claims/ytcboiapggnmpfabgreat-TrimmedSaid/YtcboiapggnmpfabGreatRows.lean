/-
  No cell of these rows narrows 'for every input' (looked for: loops, veiled, ifaces, maps, wideKeys, modest, calm, conditions, laid).
  DERIVED. THE GIVEN ROWS OF THIS SEAT. 6 by the template 'for every input the law returns true; each argument reads behind the call as it read before'; 0 by the template 'total and deterministic' (their statements: YtcboiapggnmpfabGreatTotals.lean).
  GIVEN WITH THE SEED: the statements are not yours to turn. If you find one false, say at which input.
  Laid BY PROGRAM, IN A SANDBOX (cutbox-rows.mjs): the forced cells as the released guide's own fill.sh prints them over the translation 5e3ec5a03b4020ca… (all of the seat's roots in one cut). By AI agents, Wed Nov 11 2026. No macro, syntax, notation, axiom, sorry.
-/
import Derived.Test.YtcboiapggnmpfabGreatChecked
import GoSem.Claim
import GoSem.ClaimJoined
import GoSem.ClaimMapViews
import Derived.JoinedTies
import Derived.KernelRfl
namespace Go.Proofs.YtcboiapggnmpfabGreat
/- THE CELL 'sum', in the pinned program and in every row, IS THE sha256 OF THE DUMP (.gsa) THAT YtcboiapggnmpfabGreatProg.lean LOADS. Nothing in Lean hashes anything: it is a label: what it is worth is what the hold of that sum in a sandbox is worth. -/
noncomputable def Tryz.pinned : Pinned := { name := "ytcboiapggnmpfabgreat", sum := "5e3ec5a03b4020ca6c5a1c74d117b5ebaca20fa74d329bb3271045049cf4bc50", checked := Tryz.checked }
namespace Rows
def none {H : Type} : Left H := { results := [], args := [] }

/-- 'spotterkeep.Starred': WHATEVER THE INPUT: true; the input reads as it did. -/
def starredSpec : ChangeSpec := { name := "starred", fn := fun _ => fun
  | [d1, d2] => { results := [.lit (.bool true)], args := [d1, d2] }
  | _ => none }
def starredRow : OpenClaim := { program := "ytcboiapggnmpfabgreat", sum := "5e3ec5a03b4020ca6c5a1c74d117b5ebaca20fa74d329bb3271045049cf4bc50", func := "spotter/spotterkeep.Starred", spec := "starred", recurses := true, apart := false }
def StarredSaid : Prop := starredRow.holds Tryz.pinned (OpenSpec.ofChange starredSpec)

/-- ITS FALSE NEIGHBOUR: 'it returns false'. Refute it at one input. -/
def starredWrong : ChangeSpec := { name := "starred", fn := fun _ => fun
  | [d1, d2] => { results := [.lit (.bool false)], args := [d1, d2] }
  | _ => none }
def StarredWrongFalsely : Prop := starredRow.holds Tryz.pinned (OpenSpec.ofChange starredWrong)

/-- 'spotterkeep.Apart': WHATEVER THE INPUT: true; the input reads as it did. -/
def apartSpec : ChangeSpec := { name := "apart", fn := fun _ => fun
  | [d1, d2, d3] => { results := [.lit (.bool true)], args := [d1, d2, d3] }
  | _ => none }
def apartRow : OpenClaim := { program := "ytcboiapggnmpfabgreat", sum := "5e3ec5a03b4020ca6c5a1c74d117b5ebaca20fa74d329bb3271045049cf4bc50", func := "spotter/spotterkeep.Apart", spec := "apart", recurses := true, apart := false }
def ApartSaid : Prop := apartRow.holds Tryz.pinned (OpenSpec.ofChange apartSpec)

/-- ITS FALSE NEIGHBOUR: 'it returns false'. Refute it at one input. -/
def apartWrong : ChangeSpec := { name := "apart", fn := fun _ => fun
  | [d1, d2, d3] => { results := [.lit (.bool false)], args := [d1, d2, d3] }
  | _ => none }
def ApartWrongFalsely : Prop := apartRow.holds Tryz.pinned (OpenSpec.ofChange apartWrong)

/-- 'spotterkeep.Traceless': WHATEVER THE INPUT: true; the input reads as it did. -/
def tracelessSpec : ChangeSpec := { name := "traceless", fn := fun _ => fun
  | [d1, d2, d3] => { results := [.lit (.bool true)], args := [d1, d2, d3] }
  | _ => none }
def tracelessRow : OpenClaim := { program := "ytcboiapggnmpfabgreat", sum := "5e3ec5a03b4020ca6c5a1c74d117b5ebaca20fa74d329bb3271045049cf4bc50", func := "spotter/spotterkeep.Traceless", spec := "traceless", recurses := true, apart := false }
def TracelessSaid : Prop := tracelessRow.holds Tryz.pinned (OpenSpec.ofChange tracelessSpec)

/-- ITS FALSE NEIGHBOUR: 'it returns false'. Refute it at one input. -/
def tracelessWrong : ChangeSpec := { name := "traceless", fn := fun _ => fun
  | [d1, d2, d3] => { results := [.lit (.bool false)], args := [d1, d2, d3] }
  | _ => none }
def TracelessWrongFalsely : Prop := tracelessRow.holds Tryz.pinned (OpenSpec.ofChange tracelessWrong)

/-- 'spotterkeep.Through': WHATEVER THE INPUT: true; the input reads as it did. -/
def throughSpec : ChangeSpec := { name := "through", fn := fun _ => fun
  | [d1, d2, d3] => { results := [.lit (.bool true)], args := [d1, d2, d3] }
  | _ => none }
def throughRow : OpenClaim := { program := "ytcboiapggnmpfabgreat", sum := "5e3ec5a03b4020ca6c5a1c74d117b5ebaca20fa74d329bb3271045049cf4bc50", func := "spotter/spotterkeep.Through", spec := "through", recurses := true, apart := false }
def ThroughSaid : Prop := throughRow.holds Tryz.pinned (OpenSpec.ofChange throughSpec)

/-- ITS FALSE NEIGHBOUR: 'it returns false'. Refute it at one input. -/
def throughWrong : ChangeSpec := { name := "through", fn := fun _ => fun
  | [d1, d2, d3] => { results := [.lit (.bool false)], args := [d1, d2, d3] }
  | _ => none }
def ThroughWrongFalsely : Prop := throughRow.holds Tryz.pinned (OpenSpec.ofChange throughWrong)

/-- 'spotterkeep.Limited': WHATEVER THE INPUT: true; the input reads as it did. -/
def limitedSpec : ChangeSpec := { name := "limited", fn := fun _ => fun
  | [d1, d2, d3, d4] => { results := [.lit (.bool true)], args := [d1, d2, d3, d4] }
  | _ => none }
def limitedRow : OpenClaim := { program := "ytcboiapggnmpfabgreat", sum := "5e3ec5a03b4020ca6c5a1c74d117b5ebaca20fa74d329bb3271045049cf4bc50", func := "spotter/spotterkeep.Limited", spec := "limited", recurses := true, apart := false }
def LimitedSaid : Prop := limitedRow.holds Tryz.pinned (OpenSpec.ofChange limitedSpec)

/-- ITS FALSE NEIGHBOUR: 'it returns false'. Refute it at one input. -/
def limitedWrong : ChangeSpec := { name := "limited", fn := fun _ => fun
  | [d1, d2, d3, d4] => { results := [.lit (.bool false)], args := [d1, d2, d3, d4] }
  | _ => none }
def LimitedWrongFalsely : Prop := limitedRow.holds Tryz.pinned (OpenSpec.ofChange limitedWrong)

/-- 'spotterkeep.Trimmed': WHATEVER THE INPUT: true; the input reads as it did. -/
def trimmedSpec : ChangeSpec := { name := "trimmed", fn := fun _ => fun
  | [d1, d2] => { results := [.lit (.bool true)], args := [d1, d2] }
  | _ => none }
def trimmedRow : OpenClaim := { program := "ytcboiapggnmpfabgreat", sum := "5e3ec5a03b4020ca6c5a1c74d117b5ebaca20fa74d329bb3271045049cf4bc50", func := "spotter/spotterkeep.Trimmed", spec := "trimmed", recurses := true, apart := false }
def TrimmedSaid : Prop := trimmedRow.holds Tryz.pinned (OpenSpec.ofChange trimmedSpec)

/-- ITS FALSE NEIGHBOUR: 'it returns false'. Refute it at one input. -/
def trimmedWrong : ChangeSpec := { name := "trimmed", fn := fun _ => fun
  | [d1, d2] => { results := [.lit (.bool false)], args := [d1, d2] }
  | _ => none }
def TrimmedWrongFalsely : Prop := trimmedRow.holds Tryz.pinned (OpenSpec.ofChange trimmedWrong)

/- THE SECOND FORM. 'bulk': how many values and letters a reading holds, each counted each time it is reached (what is shared counts as often as it is met; a slice's spare places count too). A statement '..UptoSaid' is the law's where the arguments, and the package variables that the reading takes, are together of bulk at most 1048576: NARROWER than '..Said'. Prove '..Said' where nothing that the law and all that it calls make is longer than what came in: it says more and counts as full. Else prove '..UptoSaid'. A law counts once. -/
mutual
def uptoBulk {H : Type} : DataW H → Nat
  | .lit (.string bytes) => bytes.length + 1
  | .lit _ => 1
  | .nil => 1
  | .ptr d => uptoBulk d + 1
  | .slice elems spare => uptoBulkAll elems + uptoBulkAll spare + 1
  | .agg parts => uptoBulkAll parts + 1
  | .iface _ d => uptoBulk d + 1
  | .map entries => uptoBulkEntries entries + 1
  | .held _ => 1
def uptoBulkAll {H : Type} : List (DataW H) → Nat
  | [] => 0
  | d :: r => uptoBulk d + uptoBulkAll r
def uptoBulkEntries {H : Type} : List (Lit × DataW H) → Nat
  | [] => 0
  | x :: r => uptoBulkEntry x + uptoBulkEntries r
def uptoBulkEntry {H : Type} : Lit × DataW H → Nat
  | (.string bytes, d) => bytes.length + uptoBulk d + 1
  | (_, d) => uptoBulk d + 1
 end
def uptoSmall : (H : Type) → List (DataW H) → Bool := fun _ ds => decide (uptoBulkAll ds ≤ 1048576)
def OpenSpec.upto (s : _root_.Go.ChangeSpec) : _root_.Go.OpenSpec := { _root_.Go.OpenSpec.ofChange s with cond := some uptoSmall }

/-- 'spotterkeep.Starred', WHERE WHAT IT READS IS OF BULK AT MOST 1048576: true; the input reads as it did. -/
def starredUptoRow : OpenClaim := { program := "ytcboiapggnmpfabgreat", sum := "5e3ec5a03b4020ca6c5a1c74d117b5ebaca20fa74d329bb3271045049cf4bc50", func := "spotter/spotterkeep.Starred", spec := "starred", recurses := true, apart := false, narrowed := true }
def StarredUptoSaid : Prop := starredUptoRow.holds Tryz.pinned (OpenSpec.upto starredSpec)

/-- 'spotterkeep.Apart', WHERE WHAT IT READS IS OF BULK AT MOST 1048576: true; the input reads as it did. -/
def apartUptoRow : OpenClaim := { program := "ytcboiapggnmpfabgreat", sum := "5e3ec5a03b4020ca6c5a1c74d117b5ebaca20fa74d329bb3271045049cf4bc50", func := "spotter/spotterkeep.Apart", spec := "apart", recurses := true, apart := false, narrowed := true }
def ApartUptoSaid : Prop := apartUptoRow.holds Tryz.pinned (OpenSpec.upto apartSpec)

/-- 'spotterkeep.Traceless', WHERE WHAT IT READS IS OF BULK AT MOST 1048576: true; the input reads as it did. -/
def tracelessUptoRow : OpenClaim := { program := "ytcboiapggnmpfabgreat", sum := "5e3ec5a03b4020ca6c5a1c74d117b5ebaca20fa74d329bb3271045049cf4bc50", func := "spotter/spotterkeep.Traceless", spec := "traceless", recurses := true, apart := false, narrowed := true }
def TracelessUptoSaid : Prop := tracelessUptoRow.holds Tryz.pinned (OpenSpec.upto tracelessSpec)

/-- 'spotterkeep.Through', WHERE WHAT IT READS IS OF BULK AT MOST 1048576: true; the input reads as it did. -/
def throughUptoRow : OpenClaim := { program := "ytcboiapggnmpfabgreat", sum := "5e3ec5a03b4020ca6c5a1c74d117b5ebaca20fa74d329bb3271045049cf4bc50", func := "spotter/spotterkeep.Through", spec := "through", recurses := true, apart := false, narrowed := true }
def ThroughUptoSaid : Prop := throughUptoRow.holds Tryz.pinned (OpenSpec.upto throughSpec)

/-- 'spotterkeep.Limited', WHERE WHAT IT READS IS OF BULK AT MOST 1048576: true; the input reads as it did. -/
def limitedUptoRow : OpenClaim := { program := "ytcboiapggnmpfabgreat", sum := "5e3ec5a03b4020ca6c5a1c74d117b5ebaca20fa74d329bb3271045049cf4bc50", func := "spotter/spotterkeep.Limited", spec := "limited", recurses := true, apart := false, narrowed := true }
def LimitedUptoSaid : Prop := limitedUptoRow.holds Tryz.pinned (OpenSpec.upto limitedSpec)

/-- 'spotterkeep.Trimmed', WHERE WHAT IT READS IS OF BULK AT MOST 1048576: true; the input reads as it did. -/
def trimmedUptoRow : OpenClaim := { program := "ytcboiapggnmpfabgreat", sum := "5e3ec5a03b4020ca6c5a1c74d117b5ebaca20fa74d329bb3271045049cf4bc50", func := "spotter/spotterkeep.Trimmed", spec := "trimmed", recurses := true, apart := false, narrowed := true }
def TrimmedUptoSaid : Prop := trimmedUptoRow.holds Tryz.pinned (OpenSpec.upto trimmedSpec)

end Rows
end Go.Proofs.YtcboiapggnmpfabGreat
