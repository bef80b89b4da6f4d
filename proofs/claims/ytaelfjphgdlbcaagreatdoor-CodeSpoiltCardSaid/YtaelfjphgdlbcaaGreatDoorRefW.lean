/-
  THE DOCUMENT's OWN ANSWER TO WHICH LINES ARE RIGHT, over any world.
-/
import Derived.Test.YtaelfjphgdlbcaaGreatDoorRName
import Derived.Test.YtaelfjphgdlbcaaGreatDoorNamOp
import Derived.Test.YtaelfjphgdlbcaaGreatDoorBase
namespace Go.Proofs.YtaelfjphgdlbcaaGreatDoor
open Go.RowKit
set_option linter.unusedVariables false
set_option linter.unusedSimpArgs false
open WordM (L)

theorem reg_sign (l : L) : decide (WordM.regNo l < 0) = !OpsM.regB l := by
  unfold OpsM.regB
  by_cases h : 0 ≤ WordM.regNo l
  · rw [decide_eq_true h, decide_eq_false (by omega)]; rfl
  · rw [decide_eq_false h, decide_eq_true (by omega)]; rfl
end Go.Proofs.YtaelfjphgdlbcaaGreatDoor
