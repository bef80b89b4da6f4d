/-
  ARGUMENTS THAT ARE PICKS, OR ROWS OF BOOLS.
-/
import Derived.Test.YtkbnppidkhbbeaaK02
import Derived.Test.YtkbnppidkhbbeaaTsV
namespace Go.Proofs.Ytkbnppidkhbbeaa
open Go Go.ChangeShapes Go.WideShapes Go.RowKit Go.Deep
set_option linter.unusedVariables false
set_option linter.unusedSimpArgs false
section
variable {H : Type} {enc : TypeId × Value → H} {w : World} {base : Nat} {spare : Nat → Bool} {held : Bool}
theorem elem_bo (cs : List Value) (y : DataW H × List MemPlace) (k : Nat) (hl : cs.length = 1) (h : DataW.trod enc Try.prog w base spare held k 4 cs = some y) : ∃ a : Bool, boC a = cs ∧ True := by
  match cs, hl with
  | [c0], _ =>
    obtain ⟨q, rfl⟩ := bool_cell Try.underlying4 h
    exact ⟨q, rfl, trivial⟩
theorem open_bools {r : Reach} {b0 : Nat} {v : Value} {d : DataW H} {p : List MemPlace} (hv : Value.okWide Try.prog w r b0 46 v) (h : DataW.Trod enc Try.prog w base spare held 46 v d p) :
    ∃ g : List Bool, BoR w.heap.size w v g := by
  obtain ⟨a, len, cap, rfl⟩ := okWide_slice Try.underlying46 hv
  obtain ⟨fuel, hf⟩ := h
  obtain ⟨g, hg, _⟩ := open_rw (fun _ : Bool => True) boC_len Try.underlying46 (by kernel_rfl) (by decide) elem_bo (by simpa [Value.cells] using hf)
  exact ⟨g, hg⟩
theorem open_pick {r : Reach} {b0 : Nat} {v : Value} {d : DataW H} {p : List MemPlace} (hv : Value.okWide Try.prog w r b0 30 v) (h : DataW.Trod enc Try.prog w base spare held 30 v d p) :
    ∃ (t : Int) (q : Bool), v = .agg #[.int .i64 t, .bool q] ∧ NumM.inR t := by
  obtain ⟨cs, rfl, hsz, hf⟩ := open_fields Try.underlying30 (by kernel_rfl) (by kernel_rfl) hv h
  obtain ⟨x0, y0, n0, e0, t0⟩ := hf 0 _ rfl
  obtain ⟨x1, y1, n1, e1, t1⟩ := hf 1 _ rfl
  obtain ⟨o, rfl, w0⟩ := int_cell Try.underlying3 t0
  obtain ⟨q, rfl⟩ := bool_cell Try.underlying4 t1
  have hcs : cs = #[.int .i64 o, .bool q] := by
    have hs2 : cs.size = 2 := hsz.trans rfl
    apply Array.ext
    · rw [hs2]; rfl
    · intro i hi hi2
      have : i < 2 := by rw [hs2] at hi; exact hi
      match i, this with
      | 0, _ => exact Option.some.inj ((Array.getElem?_eq_getElem hi).symm.trans e0)
      | 1, _ => exact Option.some.inj ((Array.getElem?_eq_getElem hi).symm.trans e1)
  subst hcs
  exact ⟨o, q, rfl, w0⟩
end
end Go.Proofs.Ytkbnppidkhbbeaa
