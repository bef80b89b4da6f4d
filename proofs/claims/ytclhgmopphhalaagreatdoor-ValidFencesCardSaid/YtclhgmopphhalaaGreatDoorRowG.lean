/-
  A ROW OF LINES, AND A BYTE, AS ARGUMENTS.
-/
import Derived.Test.YtclhgmopphhalaaGreatDoorRowF
import Derived.Test.YtclhgmopphhalaaGreatDoorRowA
namespace Go.Proofs.YtclhgmopphhalaaGreatDoor
open Go Go.ChangeShapes Go.WideShapes Go.RowKit Go.Deep
set_option linter.unusedVariables false
set_option maxRecDepth 100000
/-- A row of lines as an argument. -/
theorem open_lines2 {H : Type} {enc : TypeId × Value → H} {w : World} {base : Nat} {spare : Nat → Bool} {held : Bool} {r : Reach} {b0 : Nat} {v : Value} {d : DataW H} {p : List MemPlace}
    (hv : Value.okWide Tryz.prog w r b0 35 v) (h : DataW.Trod enc Tryz.prog w base spare held 35 v d p) : ∃ ls : List OpsM.Ln, Lns w.heap.size w v ls ∧ NilZ v := by
  obtain ⟨a, len, cap, rfl⟩ := okWide_slice Tryz.underlying35 hv
  obtain ⟨fuel, hf⟩ := h
  exact open_lines (v := .slice a len cap) hf
end Go.Proofs.YtclhgmopphhalaaGreatDoor
