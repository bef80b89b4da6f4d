/-
  THE DOCUMENT's small tests of layer 4: whether a line is an instruction, a jump; how often a label stands in some lines.
-/
import Derived.Test.YtaelfjphgdlbcaaGreatDoorLms
namespace Go.Proofs.YtaelfjphgdlbcaaGreatDoor
open Go.RowKit
set_option linter.unusedVariables false
set_option linter.unusedSimpArgs false
open WordM (L)

def RlRel (ls : List OpsM.Ln) (s : L) (c i : Value) : Prop :=
  ∃ k : Nat, k ≤ ls.length ∧ i = .int .i64 k ∧ c = .int .i64 (lcnt (ls.take k) s : Nat)
end Go.Proofs.YtaelfjphgdlbcaaGreatDoor
