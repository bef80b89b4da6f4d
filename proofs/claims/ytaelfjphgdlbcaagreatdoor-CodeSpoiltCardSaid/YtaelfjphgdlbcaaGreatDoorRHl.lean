/-
  THE DOCUMENT's put: a name among others that rise.
-/
import Derived.Test.YtaelfjphgdlbcaaGreatDoorFrmA
import Derived.Test.YtaelfjphgdlbcaaGreatDoorBase
import Derived.Test.YtaelfjphgdlbcaaGreatDoorLocA
namespace Go.Proofs.YtaelfjphgdlbcaaGreatDoor
open Go.RowKit
set_option linter.unusedVariables false
set_option linter.unusedSimpArgs false
open WordM (L)
open VM

def PtRel (ls : List L) (s : L) (w : World) (v d i : Value) (wr : World) : Prop :=
  ∃ (k : Nat) (out : List L) (dn : Bool), k ≤ ls.length ∧ i = .int .i64 k ∧ d = .bool dn ∧ out.length ≤ 2 * k ∧ VM.put ls s = out ++ (if dn = true then ls.drop k else ins s (ls.drop k)) ∧ wr.ownsRow w.heap.size 9 1 v out.length (svs out) ∧ Below w.heap.size w wr
theorem pt_own {w wr w1 : World} {v v' : Value} {out : List L} {x : L} (h : w1.ownsRow w.heap.size 9 1 v' (out.length + 1) (svs out ++ [.string ⟨x.toArray⟩])) : w1.ownsRow w.heap.size 9 1 v' (out ++ [x]).length (svs (out ++ [x])) := by
  rw [svs_snoc, List.length_append]; exact h
end Go.Proofs.YtaelfjphgdlbcaaGreatDoor
