/-
  THE DOCUMENT's At of layer 10: the step at which a thread is.
-/
import Derived.Test.YtbffjhdocicfoaaScW
import Derived.Test.YtbffjhdocicfoaaScX
import Derived.Deep.RegionHeld3
import Derived.Deep.DeepCutAuto
namespace Go.Proofs.Ytbffjhdocicfoaa
open Go.RowKit
set_option linter.unusedVariables false
set_option linter.unusedSimpArgs false
open CodM (St Pg rightP)
open BfM (Wr plc)
open ScM

def stV (x : St) : Value := .agg #[.int .i64 x.op, .int .i64 x.reg, .int .i64 x.loc, .int .i64 x.n, .int .i64 x.to]
theorem st_oth {w : World} {x i y j : Nat} {u v : Value} (h : i ≠ j) (hc : w.cell? ⟨y, j, none⟩ = some u) : (w.setCell ⟨x, i, none⟩ v).cell? ⟨y, j, none⟩ = some u := by
  rw [World.cell?_setCell_other _ _ _ _ (by simp; try omega)]; exact hc
theorem atS_past {P : Pg} {s : Sta} {k : Nat} {h1 : k < s.ths.length} {h2 : k < P.ths.length} (h : ¬ s.ths[k].at'.toNat < P.ths[k].length) : atS P s k = none :=
  atS_none (fun ⟨j, e, i1, i2, i3⟩ => by
    have : j = k := by omega
    subst this
    exact h i3)
end Go.Proofs.Ytbffjhdocicfoaa
