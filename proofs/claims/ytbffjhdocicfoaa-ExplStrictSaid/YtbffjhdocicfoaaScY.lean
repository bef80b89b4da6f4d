/-
  THE DOCUMENT's Right of states.
-/
import Derived.Test.YtbffjhdocicfoaaScW
import Derived.Test.YtbffjhdocicfoaaScX
import Derived.Deep.RegionHeld3
import Derived.Deep.DeepCutAuto
namespace Go.Proofs.Ytbffjhdocicfoaa
open Go.RowKit
set_option linter.unusedVariables false
set_option linter.unusedSimpArgs false
open CodM (St Pg rightP)
open BfM (Wr plc)
open ScM

/-- What a test hands back that tells whether something holds. -/
def Tells (p : Prop) (w : World) (e : Ending) (w' : World) : Prop := ∃ d, e = .returned (.bool d) ∧ (d = true ↔ p) ∧ Below w.heap.size w w'
theorem tells_no {p : Prop} {w w' : World} (h : ¬ p) (hB : Below w.heap.size w w') : Tells p w (.returned (.bool false)) w' := ⟨false, rfl, ⟨fun e => (by cases e), fun e => absurd e h⟩, hB⟩
theorem tells_yes {p : Prop} {w w' : World} (h : p) (hB : Below w.heap.size w w') : Tells p w (.returned (.bool true)) w' := ⟨true, rfl, ⟨fun _ => h, fun _ => rfl⟩, hB⟩
end Go.Proofs.Ytbffjhdocicfoaa
