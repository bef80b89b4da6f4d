/-
  THE DOCUMENT's Right of states.
-/
import Derived.Test.YtlpjgaeelnlipaaScW
import Derived.Test.YtlpjgaeelnlipaaScX
import Derived.Deep.RegionHeld3
import Derived.Deep.DeepCutAuto
namespace Go.Proofs.Ytlpjgaeelnlipaa
open Go.RowKit
set_option linter.unusedVariables false
set_option linter.unusedSimpArgs false
open CodM (St Pg rightP)
open BfM (Wr plc)
open ScM

end Go.Proofs.Ytlpjgaeelnlipaa
