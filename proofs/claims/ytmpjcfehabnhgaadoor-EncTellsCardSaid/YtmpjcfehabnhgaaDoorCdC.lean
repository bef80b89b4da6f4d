/-
  code.Right: by slices.ContainsFunc, over a closure.
-/
import Derived.Test.YtmpjcfehabnhgaaDoorK02
namespace Go.Proofs.YtmpjcfehabnhgaaDoor
open Go.RowKit
set_option linter.unusedVariables false
set_option linter.unusedSimpArgs false
open WordM (L)
open CodM (St Pg rightT rightP posI)

/-- A code's box: two cells of a block. -/
def PgBox (w : World) (g : Nat) (vi vt : Value) : Prop := w.cell? ⟨g, 0, none⟩ = some vi ∧ w.cell? ⟨g, 1, none⟩ = some vt
theorem PgBox.below {w w' : World} {g : Nat} {vi vt : Value} (h : PgBox w g vi vt) (hB : Below w.heap.size w w') : PgBox w' g vi vt := ⟨kc hB h.1, kc hB h.2⟩
theorem PgBox.at {w : World} {g : Nat} (hg : g = w.heap.size) (vi vt : Value) (T : TypeId) : PgBox (w.alloc (.cells #[vi, vt] T)) g vi vt := by
  subst hg
  refine ⟨?_, ?_⟩ <;> (rw [World.cell?_alloc_at _ _ _ _ rfl]; rfl)
/-- No row ahead of the k-th is wrong. -/
def IfRel (n : Nat) (ts : List (List St)) (w : World) (i : Value) (wr : World) : Prop :=
  ∃ k : Nat, k ≤ ts.length ∧ i = .int .i64 k ∧ (∀ j (hj : j < ts.length), j < k → (!(rightT n ts[j])) = false) ∧ Below w.heap.size w wr
theorem posI_all (n : Nat) (ts : List (List St)) : decide (0 ≤ posI (fun ss => !(rightT n ss)) ts) = !(ts.all (rightT n)) := by
  by_cases h : ts.all (rightT n) = true
  · rw [h]
    have : posI (fun ss => !(rightT n ss)) ts = -1 := CodM.posI_none (fun j hj => by
      have := List.all_eq_true.1 h ts[j] (List.getElem_mem hj)
      simp [this])
    rw [this]; rfl
  · have h' : ts.all (rightT n) = false := by simpa using h
    rw [h']
    obtain ⟨x, hx, hn⟩ := List.all_eq_false.1 h'
    obtain ⟨j, hj, rfl⟩ := List.mem_iff_getElem.1 hx
    obtain ⟨h1, h2, _⟩ := CodM.pos0_at (p := fun ss => !(rightT n ss)) hj (by simpa using hn)
    unfold posI
    cases e : ts.findIdx? (fun ss => !(rightT n ss)) with
    | none =>
      rw [List.findIdx?_eq_none_iff] at e
      exact absurd (e _ (List.getElem_mem hj)) (by simpa using hn)
    | some k => simp
end Go.Proofs.YtmpjcfehabnhgaaDoor
