/-
  ARGUMENTS THAT ARE CODES: what locations have at first is nil only without room.
-/
import Derived.Test.YtbffjhdocicfoaaRowI
import Derived.OpenShut
namespace Go.Proofs.Ytbffjhdocicfoaa
open Go Go.ChangeShapes Go.WideShapes Go.RowKit Go.Deep
set_option linter.unusedVariables false
set_option maxRecDepth 100000
theorem int_wf_le {n : Int} (h : (Lit.int .i64 n).wf = true) : n ≤ 9223372036854775807 := by
  have := bounds_i64 h
  omega
theorem open_progz {H : Type} {enc : TypeId × Value → H} {w : World} {base : Nat} {spare : Nat → Bool} {held : Bool} {r : Reach} {b0 : Nat} {v : Value} {d : DataW H} {p : List MemPlace}
    (hv : Value.okWide Try.prog w r b0 25 v) (h : DataW.Trod enc Try.prog w base spare held 25 v d p) :
    ∀ vi vt, v = .agg #[vi, vt] → NilZ vi := by
  obtain ⟨cs, rfl, hsz, hf⟩ := open_fields Try.underlying25 (by kernel_rfl) (by kernel_rfl) hv h
  obtain ⟨x0, y0, n0, e0, t0⟩ := hf 0 _ rfl
  obtain ⟨ns, _, _, hz⟩ := open_nums t0
  intro vi vt e
  injection e with e
  subst e
  have : x0 = vi := by simpa using e0.symm
  rw [← this]; exact hz
end Go.Proofs.Ytbffjhdocicfoaa
