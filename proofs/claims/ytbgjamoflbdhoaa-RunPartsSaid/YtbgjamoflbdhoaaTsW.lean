/-
  ARGUMENTS THAT ARE PICKS, OR ROWS OF BOOLS.
-/
import Derived.Test.YtbgjamoflbdhoaaK02
import Derived.Test.YtbgjamoflbdhoaaK17
namespace Go.Proofs.Ytbgjamoflbdhoaa
open Go Go.ChangeShapes Go.WideShapes Go.RowKit Go.Deep
set_option linter.unusedVariables false
set_option linter.unusedSimpArgs false
set_option maxRecDepth 100000
section
variable {H : Type} {enc : TypeId × Value → H} {w : World} {base : Nat} {spare : Nat → Bool} {held : Bool}
theorem open_pick {r : Reach} {b0 : Nat} {v : Value} {d : DataW H} {p : List MemPlace} (hv : Value.okWide Try.prog w r b0 47 v) (h : DataW.Trod enc Try.prog w base spare held 47 v d p) :
    ∃ (t : Int) (q : Bool), v = .agg #[.int .i64 t, .bool q] ∧ NumM.inR t := by
  obtain ⟨cs, rfl, hsz, hf⟩ := open_fields Try.underlying47 (by kernel_rfl) (by kernel_rfl) hv h
  obtain ⟨x0, y0, n0, e0, t0⟩ := hf 0 _ rfl
  obtain ⟨x1, y1, n1, e1, t1⟩ := hf 1 _ rfl
  obtain ⟨o, rfl, w0⟩ := int_cell Try.underlying3 t0
  obtain ⟨q, rfl⟩ := bool_cell Try.underlying4 t1
  have hcs : cs = #[.int .i64 o, .bool q] := by
    have hs2 : cs.size = 2 := hsz.trans rfl
    apply Array.ext
    · rw [hs2]; rfl
    · intro i hi hi2
      have : i < 2 := by rw [hs2] at hi; exact hi
      match i, this with
      | 0, _ => exact Option.some.inj ((Array.getElem?_eq_getElem hi).symm.trans e0)
      | 1, _ => exact Option.some.inj ((Array.getElem?_eq_getElem hi).symm.trans e1)
  subst hcs
  exact ⟨o, q, rfl, w0⟩
end
end Go.Proofs.Ytbgjamoflbdhoaa
