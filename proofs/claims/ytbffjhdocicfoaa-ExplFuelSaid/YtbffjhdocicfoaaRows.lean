/-
  No cell of these rows narrows 'for every input' (looked for: loops, veiled, ifaces, maps, wideKeys, modest, calm, conditions, laid).
  DERIVED. THE GIVEN ROWS OF THIS SEAT. 5 by the template 'for every input the law returns true; each argument reads behind the call as it read before'; 0 by the template 'total and deterministic' (their statements: YtbffjhdocicfoaaTotals.lean).
  GIVEN WITH THE SEED: the statements are not yours to turn. If you find one false, say at which input.
  Laid BY PROGRAM, IN A SANDBOX (cutbox-rows.mjs): the forced cells as the released guide's own fill.sh prints them over the translation 0ab7866c16fb8ee4… (all of the seat's roots in one cut). By AI agents, Wed Nov 11 2026. No macro, syntax, notation, axiom, sorry.
-/
import Derived.Test.YtbffjhdocicfoaaChecked
import GoSem.Claim
import GoSem.ClaimJoined
import GoSem.ClaimMapViews
import Derived.JoinedTies
import Derived.KernelRfl
namespace Go.Proofs.Ytbffjhdocicfoaa
/- THE CELL 'sum', in the pinned program and in every row, IS THE sha256 OF THE DUMP (.gsa) THAT YtbffjhdocicfoaaProg.lean LOADS. Nothing in Lean hashes anything: it is a label: what it is worth is what the hold of that sum in a sandbox is worth. -/
noncomputable def Try.pinned : Pinned := { name := "ytbffjhdocicfoaa", sum := "0ab7866c16fb8ee4d17178d848497da7388ac814f82a1b8753c2e3664ae57243", checked := Try.checked }
namespace Rows
def none {H : Type} : Left H := { results := [], args := [] }

/-- 'fencepostlaw16.ExplRuns': WHATEVER THE INPUT: true; the input reads as it did. -/
def explRunsSpec : ChangeSpec := { name := "explRuns", fn := fun _ => fun
  | [d1, d2, d3] => { results := [.lit (.bool true)], args := [d1, d2, d3] }
  | _ => none }
def explRunsRow : OpenClaim := { program := "ytbffjhdocicfoaa", sum := "0ab7866c16fb8ee4d17178d848497da7388ac814f82a1b8753c2e3664ae57243", func := "fencepost/fencepostlaw16.ExplRuns", spec := "explRuns", inPlace := ["internal/abi.NoEscape"], unfollowed := true, recurses := true, apart := false }
def ExplRunsSaid : Prop := explRunsRow.holds Try.pinned (OpenSpec.ofChange explRunsSpec)

/-- ITS FALSE NEIGHBOUR: 'it returns false'. Refute it at one input. -/
def explRunsWrong : ChangeSpec := { name := "explRuns", fn := fun _ => fun
  | [d1, d2, d3] => { results := [.lit (.bool false)], args := [d1, d2, d3] }
  | _ => none }
def ExplRunsWrongFalsely : Prop := explRunsRow.holds Try.pinned (OpenSpec.ofChange explRunsWrong)

/-- 'fencepostlaw16.ExplAll': WHATEVER THE INPUT: true; the input reads as it did. -/
def explAllSpec : ChangeSpec := { name := "explAll", fn := fun _ => fun
  | [d1, d2, d3, d4] => { results := [.lit (.bool true)], args := [d1, d2, d3, d4] }
  | _ => none }
def explAllRow : OpenClaim := { program := "ytbffjhdocicfoaa", sum := "0ab7866c16fb8ee4d17178d848497da7388ac814f82a1b8753c2e3664ae57243", func := "fencepost/fencepostlaw16.ExplAll", spec := "explAll", inPlace := ["internal/abi.NoEscape"], unfollowed := true, recurses := true, apart := false }
def ExplAllSaid : Prop := explAllRow.holds Try.pinned (OpenSpec.ofChange explAllSpec)

/-- ITS FALSE NEIGHBOUR: 'it returns false'. Refute it at one input. -/
def explAllWrong : ChangeSpec := { name := "explAll", fn := fun _ => fun
  | [d1, d2, d3, d4] => { results := [.lit (.bool false)], args := [d1, d2, d3, d4] }
  | _ => none }
def ExplAllWrongFalsely : Prop := explAllRow.holds Try.pinned (OpenSpec.ofChange explAllWrong)

/-- 'fencepostlaw16.ExplStrict': WHATEVER THE INPUT: true; the input reads as it did. -/
def explStrictSpec : ChangeSpec := { name := "explStrict", fn := fun _ => fun
  | [d1, d2] => { results := [.lit (.bool true)], args := [d1, d2] }
  | _ => none }
def explStrictRow : OpenClaim := { program := "ytbffjhdocicfoaa", sum := "0ab7866c16fb8ee4d17178d848497da7388ac814f82a1b8753c2e3664ae57243", func := "fencepost/fencepostlaw16.ExplStrict", spec := "explStrict", inPlace := ["internal/abi.NoEscape"], unfollowed := true, recurses := true, apart := false }
def ExplStrictSaid : Prop := explStrictRow.holds Try.pinned (OpenSpec.ofChange explStrictSpec)

/-- ITS FALSE NEIGHBOUR: 'it returns false'. Refute it at one input. -/
def explStrictWrong : ChangeSpec := { name := "explStrict", fn := fun _ => fun
  | [d1, d2] => { results := [.lit (.bool false)], args := [d1, d2] }
  | _ => none }
def ExplStrictWrongFalsely : Prop := explStrictRow.holds Try.pinned (OpenSpec.ofChange explStrictWrong)

/-- 'fencepostlaw16.ExplFuel': WHATEVER THE INPUT: true; the input reads as it did. -/
def explFuelSpec : ChangeSpec := { name := "explFuel", fn := fun _ => fun
  | [d1, d2, d3] => { results := [.lit (.bool true)], args := [d1, d2, d3] }
  | _ => none }
def explFuelRow : OpenClaim := { program := "ytbffjhdocicfoaa", sum := "0ab7866c16fb8ee4d17178d848497da7388ac814f82a1b8753c2e3664ae57243", func := "fencepost/fencepostlaw16.ExplFuel", spec := "explFuel", inPlace := ["internal/abi.NoEscape"], unfollowed := true, recurses := true, apart := false }
def ExplFuelSaid : Prop := explFuelRow.holds Try.pinned (OpenSpec.ofChange explFuelSpec)

/-- ITS FALSE NEIGHBOUR: 'it returns false'. Refute it at one input. -/
def explFuelWrong : ChangeSpec := { name := "explFuel", fn := fun _ => fun
  | [d1, d2, d3] => { results := [.lit (.bool false)], args := [d1, d2, d3] }
  | _ => none }
def ExplFuelWrongFalsely : Prop := explFuelRow.holds Try.pinned (OpenSpec.ofChange explFuelWrong)

/-- 'fencepostlaw16.ExplAlone': WHATEVER THE INPUT: true; the input reads as it did. -/
def explAloneSpec : ChangeSpec := { name := "explAlone", fn := fun _ => fun
  | [d] => { results := [.lit (.bool true)], args := [d] }
  | _ => none }
def explAloneRow : OpenClaim := { program := "ytbffjhdocicfoaa", sum := "0ab7866c16fb8ee4d17178d848497da7388ac814f82a1b8753c2e3664ae57243", func := "fencepost/fencepostlaw16.ExplAlone", spec := "explAlone", inPlace := ["internal/abi.NoEscape"], unfollowed := true, recurses := true, apart := false }
def ExplAloneSaid : Prop := explAloneRow.holds Try.pinned (OpenSpec.ofChange explAloneSpec)

/-- ITS FALSE NEIGHBOUR: 'it returns false'. Refute it at one input. -/
def explAloneWrong : ChangeSpec := { name := "explAlone", fn := fun _ => fun
  | [d] => { results := [.lit (.bool false)], args := [d] }
  | _ => none }
def ExplAloneWrongFalsely : Prop := explAloneRow.holds Try.pinned (OpenSpec.ofChange explAloneWrong)

/- THE SECOND FORM. 'bulk': how many values and letters a reading holds, each counted each time it is reached (what is shared counts as often as it is met; a slice's spare places count too). A statement '..UptoSaid' is the law's where the arguments, and the package variables that the reading takes, are together of bulk at most 1048576: NARROWER than '..Said'. Prove '..Said' where nothing that the law and all that it calls make is longer than what came in: it says more and counts as full. Else prove '..UptoSaid'. A law counts once. -/
mutual
def uptoBulk {H : Type} : DataW H → Nat
  | .lit (.string bytes) => bytes.length + 1
  | .lit _ => 1
  | .nil => 1
  | .ptr d => uptoBulk d + 1
  | .slice elems spare => uptoBulkAll elems + uptoBulkAll spare + 1
  | .agg parts => uptoBulkAll parts + 1
  | .iface _ d => uptoBulk d + 1
  | .map entries => uptoBulkEntries entries + 1
  | .held _ => 1
def uptoBulkAll {H : Type} : List (DataW H) → Nat
  | [] => 0
  | d :: r => uptoBulk d + uptoBulkAll r
def uptoBulkEntries {H : Type} : List (Lit × DataW H) → Nat
  | [] => 0
  | x :: r => uptoBulkEntry x + uptoBulkEntries r
def uptoBulkEntry {H : Type} : Lit × DataW H → Nat
  | (.string bytes, d) => bytes.length + uptoBulk d + 1
  | (_, d) => uptoBulk d + 1
 end
def uptoSmall : (H : Type) → List (DataW H) → Bool := fun _ ds => decide (uptoBulkAll ds ≤ 1048576)
def OpenSpec.upto (s : _root_.Go.ChangeSpec) : _root_.Go.OpenSpec := { _root_.Go.OpenSpec.ofChange s with cond := some uptoSmall }

/-- 'fencepostlaw16.ExplRuns', WHERE WHAT IT READS IS OF BULK AT MOST 1048576: true; the input reads as it did. -/
def explRunsUptoRow : OpenClaim := { program := "ytbffjhdocicfoaa", sum := "0ab7866c16fb8ee4d17178d848497da7388ac814f82a1b8753c2e3664ae57243", func := "fencepost/fencepostlaw16.ExplRuns", spec := "explRuns", inPlace := ["internal/abi.NoEscape"], unfollowed := true, recurses := true, apart := false, narrowed := true }
def ExplRunsUptoSaid : Prop := explRunsUptoRow.holds Try.pinned (OpenSpec.upto explRunsSpec)

/-- 'fencepostlaw16.ExplAll', WHERE WHAT IT READS IS OF BULK AT MOST 1048576: true; the input reads as it did. -/
def explAllUptoRow : OpenClaim := { program := "ytbffjhdocicfoaa", sum := "0ab7866c16fb8ee4d17178d848497da7388ac814f82a1b8753c2e3664ae57243", func := "fencepost/fencepostlaw16.ExplAll", spec := "explAll", inPlace := ["internal/abi.NoEscape"], unfollowed := true, recurses := true, apart := false, narrowed := true }
def ExplAllUptoSaid : Prop := explAllUptoRow.holds Try.pinned (OpenSpec.upto explAllSpec)

/-- 'fencepostlaw16.ExplStrict', WHERE WHAT IT READS IS OF BULK AT MOST 1048576: true; the input reads as it did. -/
def explStrictUptoRow : OpenClaim := { program := "ytbffjhdocicfoaa", sum := "0ab7866c16fb8ee4d17178d848497da7388ac814f82a1b8753c2e3664ae57243", func := "fencepost/fencepostlaw16.ExplStrict", spec := "explStrict", inPlace := ["internal/abi.NoEscape"], unfollowed := true, recurses := true, apart := false, narrowed := true }
def ExplStrictUptoSaid : Prop := explStrictUptoRow.holds Try.pinned (OpenSpec.upto explStrictSpec)

/-- 'fencepostlaw16.ExplFuel', WHERE WHAT IT READS IS OF BULK AT MOST 1048576: true; the input reads as it did. -/
def explFuelUptoRow : OpenClaim := { program := "ytbffjhdocicfoaa", sum := "0ab7866c16fb8ee4d17178d848497da7388ac814f82a1b8753c2e3664ae57243", func := "fencepost/fencepostlaw16.ExplFuel", spec := "explFuel", inPlace := ["internal/abi.NoEscape"], unfollowed := true, recurses := true, apart := false, narrowed := true }
def ExplFuelUptoSaid : Prop := explFuelUptoRow.holds Try.pinned (OpenSpec.upto explFuelSpec)

/-- 'fencepostlaw16.ExplAlone', WHERE WHAT IT READS IS OF BULK AT MOST 1048576: true; the input reads as it did. -/
def explAloneUptoRow : OpenClaim := { program := "ytbffjhdocicfoaa", sum := "0ab7866c16fb8ee4d17178d848497da7388ac814f82a1b8753c2e3664ae57243", func := "fencepost/fencepostlaw16.ExplAlone", spec := "explAlone", inPlace := ["internal/abi.NoEscape"], unfollowed := true, recurses := true, apart := false, narrowed := true }
def ExplAloneUptoSaid : Prop := explAloneUptoRow.holds Try.pinned (OpenSpec.upto explAloneSpec)

end Rows
end Go.Proofs.Ytbffjhdocicfoaa
