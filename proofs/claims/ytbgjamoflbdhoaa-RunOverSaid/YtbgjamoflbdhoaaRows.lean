/-
  No cell of these rows narrows 'for every input' (looked for: loops, veiled, ifaces, maps, wideKeys, modest, calm, conditions, laid).
  DERIVED. THE GIVEN ROWS OF THIS SEAT. 6 by the template 'for every input the law returns true; each argument reads behind the call as it read before'; 0 by the template 'total and deterministic' (their statements: YtbgjamoflbdhoaaTotals.lean).
  GIVEN WITH THE SEED: the statements are not yours to turn. If you find one false, say at which input.
  Laid BY PROGRAM, IN A SANDBOX (cutbox-rows.mjs): the forced cells as the released guide's own fill.sh prints them over the translation b4faac92c021f824… (all of the seat's roots in one cut). By AI agents, Wed Nov 11 2026. No macro, syntax, notation, axiom, sorry.
-/
import Derived.Test.YtbgjamoflbdhoaaChecked
import GoSem.Claim
import GoSem.ClaimJoined
import GoSem.ClaimMapViews
import Derived.JoinedTies
import Derived.KernelRfl
namespace Go.Proofs.Ytbgjamoflbdhoaa
/- THE CELL 'sum', in the pinned program and in every row, IS THE sha256 OF THE DUMP (.gsa) THAT YtbgjamoflbdhoaaProg.lean LOADS. Nothing in Lean hashes anything: it is a label: what it is worth is what the hold of that sum in a sandbox is worth. -/
noncomputable def Try.pinned : Pinned := { name := "ytbgjamoflbdhoaa", sum := "b4faac92c021f824f545709f8017d014fbca6c852ea3250ebf14ac6acd873b41", checked := Try.checked }
namespace Rows
def none {H : Type} : Left H := { results := [], args := [] }

/-- 'fencepostlaw13.RunTells': WHATEVER THE INPUT: true; the input reads as it did. -/
def runTellsSpec : ChangeSpec := { name := "runTells", fn := fun _ => fun
  | [d1, d2, d3] => { results := [.lit (.bool true)], args := [d1, d2, d3] }
  | _ => none }
def runTellsRow : OpenClaim := { program := "ytbgjamoflbdhoaa", sum := "b4faac92c021f824f545709f8017d014fbca6c852ea3250ebf14ac6acd873b41", func := "fencepost/fencepostlaw13.RunTells", spec := "runTells", unfollowed := true, recurses := true, apart := false }
def RunTellsSaid : Prop := runTellsRow.holds Try.pinned (OpenSpec.ofChange runTellsSpec)

/-- ITS FALSE NEIGHBOUR: 'it returns false'. Refute it at one input. -/
def runTellsWrong : ChangeSpec := { name := "runTells", fn := fun _ => fun
  | [d1, d2, d3] => { results := [.lit (.bool false)], args := [d1, d2, d3] }
  | _ => none }
def RunTellsWrongFalsely : Prop := runTellsRow.holds Try.pinned (OpenSpec.ofChange runTellsWrong)

/-- 'fencepostlaw13.RunParts': WHATEVER THE INPUT: true; the input reads as it did. -/
def runPartsSpec : ChangeSpec := { name := "runParts", fn := fun _ => fun
  | [d1, d2, d3, d4] => { results := [.lit (.bool true)], args := [d1, d2, d3, d4] }
  | _ => none }
def runPartsRow : OpenClaim := { program := "ytbgjamoflbdhoaa", sum := "b4faac92c021f824f545709f8017d014fbca6c852ea3250ebf14ac6acd873b41", func := "fencepost/fencepostlaw13.RunParts", spec := "runParts", unfollowed := true, recurses := true, apart := false }
def RunPartsSaid : Prop := runPartsRow.holds Try.pinned (OpenSpec.ofChange runPartsSpec)

/-- ITS FALSE NEIGHBOUR: 'it returns false'. Refute it at one input. -/
def runPartsWrong : ChangeSpec := { name := "runParts", fn := fun _ => fun
  | [d1, d2, d3, d4] => { results := [.lit (.bool false)], args := [d1, d2, d3, d4] }
  | _ => none }
def RunPartsWrongFalsely : Prop := runPartsRow.holds Try.pinned (OpenSpec.ofChange runPartsWrong)

/-- 'fencepostlaw13.RunStrict': WHATEVER THE INPUT: true; the input reads as it did. -/
def runStrictSpec : ChangeSpec := { name := "runStrict", fn := fun _ => fun
  | [d1, d2] => { results := [.lit (.bool true)], args := [d1, d2] }
  | _ => none }
def runStrictRow : OpenClaim := { program := "ytbgjamoflbdhoaa", sum := "b4faac92c021f824f545709f8017d014fbca6c852ea3250ebf14ac6acd873b41", func := "fencepost/fencepostlaw13.RunStrict", spec := "runStrict", unfollowed := true, recurses := true, apart := false }
def RunStrictSaid : Prop := runStrictRow.holds Try.pinned (OpenSpec.ofChange runStrictSpec)

/-- ITS FALSE NEIGHBOUR: 'it returns false'. Refute it at one input. -/
def runStrictWrong : ChangeSpec := { name := "runStrict", fn := fun _ => fun
  | [d1, d2] => { results := [.lit (.bool false)], args := [d1, d2] }
  | _ => none }
def RunStrictWrongFalsely : Prop := runStrictRow.holds Try.pinned (OpenSpec.ofChange runStrictWrong)

/-- 'fencepostlaw13.RunOver': WHATEVER THE INPUT: true; the input reads as it did. -/
def runOverSpec : ChangeSpec := { name := "runOver", fn := fun _ => fun
  | [d1, d2, d3] => { results := [.lit (.bool true)], args := [d1, d2, d3] }
  | _ => none }
def runOverRow : OpenClaim := { program := "ytbgjamoflbdhoaa", sum := "b4faac92c021f824f545709f8017d014fbca6c852ea3250ebf14ac6acd873b41", func := "fencepost/fencepostlaw13.RunOver", spec := "runOver", unfollowed := true, recurses := true, apart := false }
def RunOverSaid : Prop := runOverRow.holds Try.pinned (OpenSpec.ofChange runOverSpec)

/-- ITS FALSE NEIGHBOUR: 'it returns false'. Refute it at one input. -/
def runOverWrong : ChangeSpec := { name := "runOver", fn := fun _ => fun
  | [d1, d2, d3] => { results := [.lit (.bool false)], args := [d1, d2, d3] }
  | _ => none }
def RunOverWrongFalsely : Prop := runOverRow.holds Try.pinned (OpenSpec.ofChange runOverWrong)

/-- 'fencepostlaw13.RunEnd': WHATEVER THE INPUT: true; the input reads as it did. -/
def runEndSpec : ChangeSpec := { name := "runEnd", fn := fun _ => fun
  | [d1, d2, d3, d4] => { results := [.lit (.bool true)], args := [d1, d2, d3, d4] }
  | _ => none }
def runEndRow : OpenClaim := { program := "ytbgjamoflbdhoaa", sum := "b4faac92c021f824f545709f8017d014fbca6c852ea3250ebf14ac6acd873b41", func := "fencepost/fencepostlaw13.RunEnd", spec := "runEnd", unfollowed := true, recurses := true, apart := false }
def RunEndSaid : Prop := runEndRow.holds Try.pinned (OpenSpec.ofChange runEndSpec)

/-- ITS FALSE NEIGHBOUR: 'it returns false'. Refute it at one input. -/
def runEndWrong : ChangeSpec := { name := "runEnd", fn := fun _ => fun
  | [d1, d2, d3, d4] => { results := [.lit (.bool false)], args := [d1, d2, d3, d4] }
  | _ => none }
def RunEndWrongFalsely : Prop := runEndRow.holds Try.pinned (OpenSpec.ofChange runEndWrong)

/-- 'fencepostlaw13.RunLong': WHATEVER THE INPUT: true; the input reads as it did. -/
def runLongSpec : ChangeSpec := { name := "runLong", fn := fun _ => fun
  | [d1, d2, d3] => { results := [.lit (.bool true)], args := [d1, d2, d3] }
  | _ => none }
def runLongRow : OpenClaim := { program := "ytbgjamoflbdhoaa", sum := "b4faac92c021f824f545709f8017d014fbca6c852ea3250ebf14ac6acd873b41", func := "fencepost/fencepostlaw13.RunLong", spec := "runLong", unfollowed := true, recurses := true, apart := false }
def RunLongSaid : Prop := runLongRow.holds Try.pinned (OpenSpec.ofChange runLongSpec)

/-- ITS FALSE NEIGHBOUR: 'it returns false'. Refute it at one input. -/
def runLongWrong : ChangeSpec := { name := "runLong", fn := fun _ => fun
  | [d1, d2, d3] => { results := [.lit (.bool false)], args := [d1, d2, d3] }
  | _ => none }
def RunLongWrongFalsely : Prop := runLongRow.holds Try.pinned (OpenSpec.ofChange runLongWrong)

/- THE SECOND FORM. 'bulk': how many values and letters a reading holds, each counted each time it is reached (what is shared counts as often as it is met; a slice's spare places count too). A statement '..UptoSaid' is the law's where the arguments, and the package variables that the reading takes, are together of bulk at most 1048576: NARROWER than '..Said'. Prove '..Said' where nothing that the law and all that it calls make is longer than what came in: it says more and counts as full. Else prove '..UptoSaid'. A law counts once. -/
mutual
def uptoBulk {H : Type} : DataW H → Nat
  | .lit (.string bytes) => bytes.length + 1
  | .lit _ => 1
  | .nil => 1
  | .ptr d => uptoBulk d + 1
  | .slice elems spare => uptoBulkAll elems + uptoBulkAll spare + 1
  | .agg parts => uptoBulkAll parts + 1
  | .iface _ d => uptoBulk d + 1
  | .map entries => uptoBulkEntries entries + 1
  | .held _ => 1
def uptoBulkAll {H : Type} : List (DataW H) → Nat
  | [] => 0
  | d :: r => uptoBulk d + uptoBulkAll r
def uptoBulkEntries {H : Type} : List (Lit × DataW H) → Nat
  | [] => 0
  | x :: r => uptoBulkEntry x + uptoBulkEntries r
def uptoBulkEntry {H : Type} : Lit × DataW H → Nat
  | (.string bytes, d) => bytes.length + uptoBulk d + 1
  | (_, d) => uptoBulk d + 1
 end
def uptoSmall : (H : Type) → List (DataW H) → Bool := fun _ ds => decide (uptoBulkAll ds ≤ 1048576)
def OpenSpec.upto (s : _root_.Go.ChangeSpec) : _root_.Go.OpenSpec := { _root_.Go.OpenSpec.ofChange s with cond := some uptoSmall }

/-- 'fencepostlaw13.RunTells', WHERE WHAT IT READS IS OF BULK AT MOST 1048576: true; the input reads as it did. -/
def runTellsUptoRow : OpenClaim := { program := "ytbgjamoflbdhoaa", sum := "b4faac92c021f824f545709f8017d014fbca6c852ea3250ebf14ac6acd873b41", func := "fencepost/fencepostlaw13.RunTells", spec := "runTells", unfollowed := true, recurses := true, apart := false, narrowed := true }
def RunTellsUptoSaid : Prop := runTellsUptoRow.holds Try.pinned (OpenSpec.upto runTellsSpec)

/-- 'fencepostlaw13.RunParts', WHERE WHAT IT READS IS OF BULK AT MOST 1048576: true; the input reads as it did. -/
def runPartsUptoRow : OpenClaim := { program := "ytbgjamoflbdhoaa", sum := "b4faac92c021f824f545709f8017d014fbca6c852ea3250ebf14ac6acd873b41", func := "fencepost/fencepostlaw13.RunParts", spec := "runParts", unfollowed := true, recurses := true, apart := false, narrowed := true }
def RunPartsUptoSaid : Prop := runPartsUptoRow.holds Try.pinned (OpenSpec.upto runPartsSpec)

/-- 'fencepostlaw13.RunStrict', WHERE WHAT IT READS IS OF BULK AT MOST 1048576: true; the input reads as it did. -/
def runStrictUptoRow : OpenClaim := { program := "ytbgjamoflbdhoaa", sum := "b4faac92c021f824f545709f8017d014fbca6c852ea3250ebf14ac6acd873b41", func := "fencepost/fencepostlaw13.RunStrict", spec := "runStrict", unfollowed := true, recurses := true, apart := false, narrowed := true }
def RunStrictUptoSaid : Prop := runStrictUptoRow.holds Try.pinned (OpenSpec.upto runStrictSpec)

/-- 'fencepostlaw13.RunOver', WHERE WHAT IT READS IS OF BULK AT MOST 1048576: true; the input reads as it did. -/
def runOverUptoRow : OpenClaim := { program := "ytbgjamoflbdhoaa", sum := "b4faac92c021f824f545709f8017d014fbca6c852ea3250ebf14ac6acd873b41", func := "fencepost/fencepostlaw13.RunOver", spec := "runOver", unfollowed := true, recurses := true, apart := false, narrowed := true }
def RunOverUptoSaid : Prop := runOverUptoRow.holds Try.pinned (OpenSpec.upto runOverSpec)

/-- 'fencepostlaw13.RunEnd', WHERE WHAT IT READS IS OF BULK AT MOST 1048576: true; the input reads as it did. -/
def runEndUptoRow : OpenClaim := { program := "ytbgjamoflbdhoaa", sum := "b4faac92c021f824f545709f8017d014fbca6c852ea3250ebf14ac6acd873b41", func := "fencepost/fencepostlaw13.RunEnd", spec := "runEnd", unfollowed := true, recurses := true, apart := false, narrowed := true }
def RunEndUptoSaid : Prop := runEndUptoRow.holds Try.pinned (OpenSpec.upto runEndSpec)

/-- 'fencepostlaw13.RunLong', WHERE WHAT IT READS IS OF BULK AT MOST 1048576: true; the input reads as it did. -/
def runLongUptoRow : OpenClaim := { program := "ytbgjamoflbdhoaa", sum := "b4faac92c021f824f545709f8017d014fbca6c852ea3250ebf14ac6acd873b41", func := "fencepost/fencepostlaw13.RunLong", spec := "runLong", unfollowed := true, recurses := true, apart := false, narrowed := true }
def RunLongUptoSaid : Prop := runLongUptoRow.holds Try.pinned (OpenSpec.upto runLongSpec)

end Rows
end Go.Proofs.Ytbgjamoflbdhoaa
