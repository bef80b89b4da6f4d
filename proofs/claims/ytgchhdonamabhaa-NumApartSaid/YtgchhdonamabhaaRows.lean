/-
  No cell of these rows narrows 'for every input' (looked for: loops, veiled, ifaces, maps, wideKeys, modest, calm, conditions, laid).
  DERIVED. THE GIVEN ROWS OF THIS SEAT. 6 by the template 'for every input the law returns true; each argument reads behind the call as it read before'; 0 by the template 'total and deterministic' (their statements: YtgchhdonamabhaaTotals.lean).
  GIVEN WITH THE SEED: the statements are not yours to turn. If you find one false, say at which input.
  Laid BY PROGRAM, IN A SANDBOX (cutbox-rows.mjs): the forced cells as the released guide's own fill.sh prints them over the translation 2a35e89b25ab5e48… (all of the seat's roots in one cut). By AI agents, Wed Nov 11 2026. No macro, syntax, notation, axiom, sorry.
-/
import Derived.Test.YtgchhdonamabhaaChecked
import GoSem.Claim
import GoSem.ClaimJoined
import GoSem.ClaimMapViews
import Derived.JoinedTies
import Derived.KernelRfl
namespace Go.Proofs.Ytgchhdonamabhaa
/- THE CELL 'sum', in the pinned program and in every row, IS THE sha256 OF THE DUMP (.gsa) THAT YtgchhdonamabhaaProg.lean LOADS. Nothing in Lean hashes anything: it is a label: what it is worth is what the hold of that sum in a sandbox is worth. -/
noncomputable def Try.pinned : Pinned := { name := "ytgchhdonamabhaa", sum := "2a35e89b25ab5e489eb0bf6c236f4e12767bab32f739bf5f89f0c13c04ffa8b1", checked := Try.checked }
namespace Rows
def none {H : Type} : Left H := { results := [], args := [] }

/-- 'fencepostlaw01.NumTells': WHATEVER THE INPUT: true; the input reads as it did. -/
def numTellsSpec : ChangeSpec := { name := "numTells", fn := fun _ => fun
  | [d1, d2, d3] => { results := [.lit (.bool true)], args := [d1, d2, d3] }
  | _ => none }
def numTellsRow : OpenClaim := { program := "ytgchhdonamabhaa", sum := "2a35e89b25ab5e489eb0bf6c236f4e12767bab32f739bf5f89f0c13c04ffa8b1", func := "fencepost/fencepostlaw01.NumTells", spec := "numTells", apart := false }
def NumTellsSaid : Prop := numTellsRow.holds Try.pinned (OpenSpec.ofChange numTellsSpec)

/-- ITS FALSE NEIGHBOUR: 'it returns false'. Refute it at one input. -/
def numTellsWrong : ChangeSpec := { name := "numTells", fn := fun _ => fun
  | [d1, d2, d3] => { results := [.lit (.bool false)], args := [d1, d2, d3] }
  | _ => none }
def NumTellsWrongFalsely : Prop := numTellsRow.holds Try.pinned (OpenSpec.ofChange numTellsWrong)

/-- 'fencepostlaw01.NumBack': WHATEVER THE INPUT: true; the input reads as it did. -/
def numBackSpec : ChangeSpec := { name := "numBack", fn := fun _ => fun
  | [d] => { results := [.lit (.bool true)], args := [d] }
  | _ => none }
def numBackRow : OpenClaim := { program := "ytgchhdonamabhaa", sum := "2a35e89b25ab5e489eb0bf6c236f4e12767bab32f739bf5f89f0c13c04ffa8b1", func := "fencepost/fencepostlaw01.NumBack", spec := "numBack", apart := false }
def NumBackSaid : Prop := numBackRow.holds Try.pinned (OpenSpec.ofChange numBackSpec)

/-- ITS FALSE NEIGHBOUR: 'it returns false'. Refute it at one input. -/
def numBackWrong : ChangeSpec := { name := "numBack", fn := fun _ => fun
  | [d] => { results := [.lit (.bool false)], args := [d] }
  | _ => none }
def NumBackWrongFalsely : Prop := numBackRow.holds Try.pinned (OpenSpec.ofChange numBackWrong)

/-- 'fencepostlaw01.NumPrints': WHATEVER THE INPUT: true; the input reads as it did. -/
def numPrintsSpec : ChangeSpec := { name := "numPrints", fn := fun _ => fun
  | [d] => { results := [.lit (.bool true)], args := [d] }
  | _ => none }
def numPrintsRow : OpenClaim := { program := "ytgchhdonamabhaa", sum := "2a35e89b25ab5e489eb0bf6c236f4e12767bab32f739bf5f89f0c13c04ffa8b1", func := "fencepost/fencepostlaw01.NumPrints", spec := "numPrints", apart := false }
def NumPrintsSaid : Prop := numPrintsRow.holds Try.pinned (OpenSpec.ofChange numPrintsSpec)

/-- ITS FALSE NEIGHBOUR: 'it returns false'. Refute it at one input. -/
def numPrintsWrong : ChangeSpec := { name := "numPrints", fn := fun _ => fun
  | [d] => { results := [.lit (.bool false)], args := [d] }
  | _ => none }
def NumPrintsWrongFalsely : Prop := numPrintsRow.holds Try.pinned (OpenSpec.ofChange numPrintsWrong)

/-- 'fencepostlaw01.NumCompare': WHATEVER THE INPUT: true; the input reads as it did. -/
def numCompareSpec : ChangeSpec := { name := "numCompare", fn := fun _ => fun
  | [d1, d2, d3] => { results := [.lit (.bool true)], args := [d1, d2, d3] }
  | _ => none }
def numCompareRow : OpenClaim := { program := "ytgchhdonamabhaa", sum := "2a35e89b25ab5e489eb0bf6c236f4e12767bab32f739bf5f89f0c13c04ffa8b1", func := "fencepost/fencepostlaw01.NumCompare", spec := "numCompare", apart := false }
def NumCompareSaid : Prop := numCompareRow.holds Try.pinned (OpenSpec.ofChange numCompareSpec)

/-- ITS FALSE NEIGHBOUR: 'it returns false'. Refute it at one input. -/
def numCompareWrong : ChangeSpec := { name := "numCompare", fn := fun _ => fun
  | [d1, d2, d3] => { results := [.lit (.bool false)], args := [d1, d2, d3] }
  | _ => none }
def NumCompareWrongFalsely : Prop := numCompareRow.holds Try.pinned (OpenSpec.ofChange numCompareWrong)

/-- 'fencepostlaw01.NumApart': WHATEVER THE INPUT: true; the input reads as it did. -/
def numApartSpec : ChangeSpec := { name := "numApart", fn := fun _ => fun
  | [d1, d2] => { results := [.lit (.bool true)], args := [d1, d2] }
  | _ => none }
def numApartRow : OpenClaim := { program := "ytgchhdonamabhaa", sum := "2a35e89b25ab5e489eb0bf6c236f4e12767bab32f739bf5f89f0c13c04ffa8b1", func := "fencepost/fencepostlaw01.NumApart", spec := "numApart", apart := false }
def NumApartSaid : Prop := numApartRow.holds Try.pinned (OpenSpec.ofChange numApartSpec)

/-- ITS FALSE NEIGHBOUR: 'it returns false'. Refute it at one input. -/
def numApartWrong : ChangeSpec := { name := "numApart", fn := fun _ => fun
  | [d1, d2] => { results := [.lit (.bool false)], args := [d1, d2] }
  | _ => none }
def NumApartWrongFalsely : Prop := numApartRow.holds Try.pinned (OpenSpec.ofChange numApartWrong)

/-- 'fencepostlaw01.NumMore': WHATEVER THE INPUT: true; the input reads as it did. -/
def numMoreSpec : ChangeSpec := { name := "numMore", fn := fun _ => fun
  | [d1, d2] => { results := [.lit (.bool true)], args := [d1, d2] }
  | _ => none }
def numMoreRow : OpenClaim := { program := "ytgchhdonamabhaa", sum := "2a35e89b25ab5e489eb0bf6c236f4e12767bab32f739bf5f89f0c13c04ffa8b1", func := "fencepost/fencepostlaw01.NumMore", spec := "numMore", apart := false }
def NumMoreSaid : Prop := numMoreRow.holds Try.pinned (OpenSpec.ofChange numMoreSpec)

/-- ITS FALSE NEIGHBOUR: 'it returns false'. Refute it at one input. -/
def numMoreWrong : ChangeSpec := { name := "numMore", fn := fun _ => fun
  | [d1, d2] => { results := [.lit (.bool false)], args := [d1, d2] }
  | _ => none }
def NumMoreWrongFalsely : Prop := numMoreRow.holds Try.pinned (OpenSpec.ofChange numMoreWrong)

/- THE SECOND FORM. 'bulk': how many values and letters a reading holds, each counted each time it is reached (what is shared counts as often as it is met; a slice's spare places count too). A statement '..UptoSaid' is the law's where the arguments, and the package variables that the reading takes, are together of bulk at most 1048576: NARROWER than '..Said'. Prove '..Said' where nothing that the law and all that it calls make is longer than what came in: it says more and counts as full. Else prove '..UptoSaid'. A law counts once. -/
mutual
def uptoBulk {H : Type} : DataW H → Nat
  | .lit (.string bytes) => bytes.length + 1
  | .lit _ => 1
  | .nil => 1
  | .ptr d => uptoBulk d + 1
  | .slice elems spare => uptoBulkAll elems + uptoBulkAll spare + 1
  | .agg parts => uptoBulkAll parts + 1
  | .iface _ d => uptoBulk d + 1
  | .map entries => uptoBulkEntries entries + 1
  | .held _ => 1
def uptoBulkAll {H : Type} : List (DataW H) → Nat
  | [] => 0
  | d :: r => uptoBulk d + uptoBulkAll r
def uptoBulkEntries {H : Type} : List (Lit × DataW H) → Nat
  | [] => 0
  | x :: r => uptoBulkEntry x + uptoBulkEntries r
def uptoBulkEntry {H : Type} : Lit × DataW H → Nat
  | (.string bytes, d) => bytes.length + uptoBulk d + 1
  | (_, d) => uptoBulk d + 1
 end
def uptoSmall : (H : Type) → List (DataW H) → Bool := fun _ ds => decide (uptoBulkAll ds ≤ 1048576)
def OpenSpec.upto (s : _root_.Go.ChangeSpec) : _root_.Go.OpenSpec := { _root_.Go.OpenSpec.ofChange s with cond := some uptoSmall }

/-- 'fencepostlaw01.NumTells', WHERE WHAT IT READS IS OF BULK AT MOST 1048576: true; the input reads as it did. -/
def numTellsUptoRow : OpenClaim := { program := "ytgchhdonamabhaa", sum := "2a35e89b25ab5e489eb0bf6c236f4e12767bab32f739bf5f89f0c13c04ffa8b1", func := "fencepost/fencepostlaw01.NumTells", spec := "numTells", apart := false, narrowed := true }
def NumTellsUptoSaid : Prop := numTellsUptoRow.holds Try.pinned (OpenSpec.upto numTellsSpec)

/-- 'fencepostlaw01.NumBack', WHERE WHAT IT READS IS OF BULK AT MOST 1048576: true; the input reads as it did. -/
def numBackUptoRow : OpenClaim := { program := "ytgchhdonamabhaa", sum := "2a35e89b25ab5e489eb0bf6c236f4e12767bab32f739bf5f89f0c13c04ffa8b1", func := "fencepost/fencepostlaw01.NumBack", spec := "numBack", apart := false, narrowed := true }
def NumBackUptoSaid : Prop := numBackUptoRow.holds Try.pinned (OpenSpec.upto numBackSpec)

/-- 'fencepostlaw01.NumPrints', WHERE WHAT IT READS IS OF BULK AT MOST 1048576: true; the input reads as it did. -/
def numPrintsUptoRow : OpenClaim := { program := "ytgchhdonamabhaa", sum := "2a35e89b25ab5e489eb0bf6c236f4e12767bab32f739bf5f89f0c13c04ffa8b1", func := "fencepost/fencepostlaw01.NumPrints", spec := "numPrints", apart := false, narrowed := true }
def NumPrintsUptoSaid : Prop := numPrintsUptoRow.holds Try.pinned (OpenSpec.upto numPrintsSpec)

/-- 'fencepostlaw01.NumCompare', WHERE WHAT IT READS IS OF BULK AT MOST 1048576: true; the input reads as it did. -/
def numCompareUptoRow : OpenClaim := { program := "ytgchhdonamabhaa", sum := "2a35e89b25ab5e489eb0bf6c236f4e12767bab32f739bf5f89f0c13c04ffa8b1", func := "fencepost/fencepostlaw01.NumCompare", spec := "numCompare", apart := false, narrowed := true }
def NumCompareUptoSaid : Prop := numCompareUptoRow.holds Try.pinned (OpenSpec.upto numCompareSpec)

/-- 'fencepostlaw01.NumApart', WHERE WHAT IT READS IS OF BULK AT MOST 1048576: true; the input reads as it did. -/
def numApartUptoRow : OpenClaim := { program := "ytgchhdonamabhaa", sum := "2a35e89b25ab5e489eb0bf6c236f4e12767bab32f739bf5f89f0c13c04ffa8b1", func := "fencepost/fencepostlaw01.NumApart", spec := "numApart", apart := false, narrowed := true }
def NumApartUptoSaid : Prop := numApartUptoRow.holds Try.pinned (OpenSpec.upto numApartSpec)

/-- 'fencepostlaw01.NumMore', WHERE WHAT IT READS IS OF BULK AT MOST 1048576: true; the input reads as it did. -/
def numMoreUptoRow : OpenClaim := { program := "ytgchhdonamabhaa", sum := "2a35e89b25ab5e489eb0bf6c236f4e12767bab32f739bf5f89f0c13c04ffa8b1", func := "fencepost/fencepostlaw01.NumMore", spec := "numMore", apart := false, narrowed := true }
def NumMoreUptoSaid : Prop := numMoreUptoRow.holds Try.pinned (OpenSpec.upto numMoreSpec)

end Rows
end Go.Proofs.Ytgchhdonamabhaa
