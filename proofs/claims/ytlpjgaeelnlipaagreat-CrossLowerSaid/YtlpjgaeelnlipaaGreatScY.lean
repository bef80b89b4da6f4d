/-
  THE DOCUMENT's Right of states.
-/
import Derived.Test.YtlpjgaeelnlipaaGreatScW
import Derived.Test.YtlpjgaeelnlipaaGreatScX
import Derived.Deep.RegionHeld3
import Derived.Deep.DeepCutAuto
namespace Go.Proofs.YtlpjgaeelnlipaaGreat
open Go.RowKit
set_option linter.unusedVariables false
set_option linter.unusedSimpArgs false
open CodM (St Pg rightP)
open BfM (Wr plc)
open ScM

end Go.Proofs.YtlpjgaeelnlipaaGreat
