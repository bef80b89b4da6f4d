/-
  THE LAWS' Great of codes; the document's right, Right of codes.
-/
import Derived.Test.YtmpjcfehabnhgaaDoorCdC
import Derived.Deep.RegionHeld3
namespace Go.Proofs.YtmpjcfehabnhgaaDoor
open Go.RowKit
set_option linter.unusedVariables false
set_option linter.unusedSimpArgs false
open WordM (L)
open CodM (St Pg rightS rightT rightP zOr hReg hLoc hNum hTo)

/-- A code that is not too much. -/
structure SmallP (P : Pg) : Prop where
  init : P.init.length ≤ 60
  ths : P.ths.length ≤ 9
  steps : ∀ ss ∈ P.ths, ss.length ≤ 300
def PgRet (P : Pg) (w : World) (e : Ending) (w' : World) : Prop := ∃ b, e = .returned (.bool b) ∧ (b = false → SmallP P) ∧ Below w.heap.size w w'
theorem zOr_false (n l m : Int) : zOr false n l m = decide (n = 0) := rfl
theorem zOr_true (n l m : Int) : zOr true n l m = (decide (l ≤ n) && decide (n ≤ m)) := rfl
end Go.Proofs.YtmpjcfehabnhgaaDoor
