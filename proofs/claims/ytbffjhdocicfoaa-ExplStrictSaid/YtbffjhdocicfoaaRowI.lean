/-
  ARGUMENTS THAT ARE ROWS OF NUMBERS: what their cells hold.
-/
import Derived.Test.YtbffjhdocicfoaaRowP
import Derived.SliceStrings
namespace Go.Proofs.Ytbffjhdocicfoaa
open Go Go.ChangeShapes Go.WideShapes Go.RowKit Go.Deep
set_option linter.unusedVariables false
set_option maxRecDepth 100000
theorem open_ints {H : Type} {enc : TypeId × Value → H} {w : World} {base : Nat} {spare : Nat → Bool} {held : Bool} {r : Reach} {b0 : Nat} {v : Value} {d : DataW H} {p : List MemPlace}
    (hv : Value.okWide Try.prog w r b0 22 v) (h : DataW.Trod enc Try.prog w base spare held 22 v d p) :
    ∃ ns : List Int, Ints w.heap.size w v ns ∧ (∀ n ∈ ns, NumM.inR n) ∧ NilZ v := by
  obtain ⟨a, len, cap, rfl⟩ := okWide_slice Try.underlying22 hv
  obtain ⟨fuel, hf⟩ := h
  exact open_nums (by simpa [Value.cells] using hf)
end Go.Proofs.Ytbffjhdocicfoaa
