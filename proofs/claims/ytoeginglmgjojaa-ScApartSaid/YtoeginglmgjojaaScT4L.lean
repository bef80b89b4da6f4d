/-
  LAYER 10: the walk of ScReads: mathematics.
-/
import Derived.Test.YtoeginglmgjojaaK02
namespace Go.Proofs.Ytoeginglmgjojaa
open Go.RowKit
set_option linter.unusedVariables false
set_option linter.unusedSimpArgs false
open CodM (St Pg rightP hReg hLoc)
open BfM (Wr plc)
open ScM

theorem stR_at (x : St) (m r : List Int) (j : Nat) (h : j < r.length) (h' : j < (stR x m r).length) :
    (stR x m r)[j] = if x.reg.toNat = j then (if x.op = 1 then x.n else if x.op = 2 ∨ x.op = 5 then nth m x.loc else r[j]) else r[j] := by
  by_cases o1 : x.op = 1
  · simp only [stR, o1, if_true, List.getElem_set]
  by_cases o2 : x.op = 2
  · simp [stR, o2, List.getElem_set]
  by_cases o5 : x.op = 5
  · simp [stR, o5, List.getElem_set]
  · simp [stR, o1, o2, o5]
theorem stM_at (x : St) (m r : List Int) (j : Nat) (h : j < m.length) (h' : j < (ScM.stM x m r).length) :
    (ScM.stM x m r)[j] = if x.loc.toNat = j then (if x.op = 3 ∨ x.op = 5 then nth r x.reg else if x.op = 4 then x.n else m[j]) else m[j] := by
  by_cases o1 : x.op = 3
  · simp [ScM.stM, o1, List.getElem_set]
  by_cases o2 : x.op = 4
  · simp [ScM.stM, o2, List.getElem_set]
  by_cases o5 : x.op = 5
  · simp [ScM.stM, o5, List.getElem_set]
  · simp [ScM.stM, o1, o2, o5]
end Go.Proofs.Ytoeginglmgjojaa
