/-
  code.Right: by slices.ContainsFunc, over a closure.
-/
import Derived.Test.YtbffjhdocicfoaaK04
namespace Go.Proofs.Ytbffjhdocicfoaa
open Go.RowKit
set_option linter.unusedVariables false
set_option linter.unusedSimpArgs false
open WordM (L)
open CodM (St Pg rightT rightP posI)

/-- A code's box: two cells of a block. -/
def PgBox (w : World) (g : Nat) (vi vt : Value) : Prop := w.cell? ⟨g, 0, none⟩ = some vi ∧ w.cell? ⟨g, 1, none⟩ = some vt
theorem PgBox.below {w w' : World} {g : Nat} {vi vt : Value} (h : PgBox w g vi vt) (hB : Below w.heap.size w w') : PgBox w' g vi vt := ⟨kc hB h.1, kc hB h.2⟩
theorem PgBox.at {w : World} {g : Nat} (hg : g = w.heap.size) (vi vt : Value) (T : TypeId) : PgBox (w.alloc (.cells #[vi, vt] T)) g vi vt := by
  subst hg
  refine ⟨?_, ?_⟩ <;> (rw [World.cell?_alloc_at _ _ _ _ rfl]; rfl)
end Go.Proofs.Ytbffjhdocicfoaa
