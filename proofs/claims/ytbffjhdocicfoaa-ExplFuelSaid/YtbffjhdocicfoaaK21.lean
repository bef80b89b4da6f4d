/-
  THE DOCUMENT's Own of layer 10: a state, in rows of the call's own.
  THE DOCUMENT's Flush of layer 11.
  STATES OF THE CALL's OWN, 6: what lies in their cells.
-/
import Derived.Test.YtbffjhdocicfoaaScP
import Derived.Test.YtbffjhdocicfoaaScAt
import Derived.Deep.RegionHeld3
import Derived.Deep.DeepCutAuto
import Derived.Test.YtbffjhdocicfoaaK15
import Derived.Test.YtbffjhdocicfoaaK19
set_option linter.unusedVariables false
set_option linter.unusedSimpArgs false
namespace Go.Proofs.Ytbffjhdocicfoaa
open Go.RowKit
set_option linter.unusedVariables false
set_option linter.unusedSimpArgs false
open CodM (St Pg rightP)
open BfM (Wr plc)
open ScM

end Go.Proofs.Ytbffjhdocicfoaa
namespace Go.Proofs.Ytbffjhdocicfoaa
open Go.RowKit
set_option linter.unusedVariables false
set_option linter.unusedSimpArgs false
open CodM (St Pg rightP)
open BfM (Wr plc)
open ScM

theorem OwnSt.pk {base : Nat} {w : World} {vm vt : Value} {s : Sta} {ps : List TV} (h : OwnSt base w vm vt s ps) {k : Nat} (hk : k < s.ths.length) : ∃ vr vb, ps[k]? = some ⟨s.ths[k], vr, vb⟩ := by
  have hkp : k < ps.length := by rw [h.len]; exact hk
  exact ⟨ps[k].vr, ps[k].vb, by rw [List.getElem?_eq_getElem hkp, ← h.at hkp hk]⟩
end Go.Proofs.Ytbffjhdocicfoaa
namespace Go.Proofs.Ytbffjhdocicfoaa
open Go.RowKit
set_option linter.unusedVariables false
set_option linter.unusedSimpArgs false
open CodM (St Pg rightP)
open BfM (Wr plc)
open ScM

end Go.Proofs.Ytbffjhdocicfoaa
