/-
  SMALL FACTS on boxes: a struct's memory behind calls that make memory alone. Of no function of the program.
-/
import Derived.Test.YtodpajnpnobfmaaKit
set_option linter.unusedSimpArgs false
namespace Go.Proofs.Ytodpajnpnobfmaa
open Go.RowKit
set_option linter.unusedVariables false
/-- What a box had when it was made it has behind calls that make memory alone. -/
theorem kept_box {w w1 : World} {cs : Array Value} {T : TypeId} (hB : Below (w.alloc (.cells cs T)).heap.size (w.alloc (.cells cs T)) w1) (i : Nat) {v : Value} (h : cs[i]? = some v) :
    w1.cell? ⟨w.heap.size, i, none⟩ = some v ∧ w1.frozen? ⟨w.heap.size, i, none⟩ = false := by
  refine ⟨(hB.cell (p := ⟨w.heap.size, i, none⟩) (by simp)).trans ?_, (hB.frozen (p := ⟨w.heap.size, i, none⟩) (by simp)).trans ?_⟩
  · rw [World.cell?_alloc_at _ _ _ _ rfl]; exact h
  · rw [World.frozen?_alloc_at _ _ _ _ rfl]
theorem kept_boxd {w w1 : World} {cs : Array Value} {T : TypeId} (hB : Below (w.alloc (.cells cs T)).drew.heap.size (w.alloc (.cells cs T)).drew w1) (i : Nat) {v : Value} (h : cs[i]? = some v) :
    w1.cell? ⟨w.heap.size, i, none⟩ = some v ∧ w1.frozen? ⟨w.heap.size, i, none⟩ = false := by
  refine ⟨(hB.cell (p := ⟨w.heap.size, i, none⟩) (by simp)).trans ?_, (hB.frozen (p := ⟨w.heap.size, i, none⟩) (by simp)).trans ?_⟩
  · show (w.alloc (.cells cs T)).cell? _ = _
    rw [World.cell?_alloc_at _ _ _ _ rfl]; exact h
  · show (w.alloc (.cells cs T)).frozen? _ = _
    rw [World.frozen?_alloc_at _ _ _ _ rfl]
theorem box_lt {w w1 : World} {o : Obj} (hB : Below (w.alloc o).heap.size (w.alloc o) w1) : w.heap.size < w1.heap.size := by
  have := hB.size; simp at this; exact this
theorem box_below {w w1 : World} {o : Obj} (hB : Below (w.alloc o).heap.size (w.alloc o) w1) : Below w.heap.size w w1 :=
  ((Below.refl _ _).alloc (Nat.le_refl _) _).trans (hB.mono (by simp))
theorem lt_of_cell {W : World} {g i : Nat} {v : Value} (h : W.cell? ⟨g, i, none⟩ = some v) : g < W.heap.size := by
  rcases Nat.lt_or_ge g W.heap.size with k | k
  · exact k
  · simp [World.cell?, Array.getElem?_eq_none k] at h
/-- Two cells that are held, behind a call that makes memory. -/
theorem held_below2 {W w' : World} {g i j : Nat} {x y : Value} (hB : Below W.heap.size W w') (h : W.cell? ⟨g, i, none⟩ = some x ∧ W.cell? ⟨g, j, none⟩ = some y) :
    w'.cell? ⟨g, i, none⟩ = some x ∧ w'.cell? ⟨g, j, none⟩ = some y :=
  ⟨(hB.cell (p := ⟨g, i, none⟩) (lt_of_cell h.1)).trans h.1, (hB.cell (p := ⟨g, j, none⟩) (lt_of_cell h.1)).trans h.2⟩

theorem held_set2 {W : World} {b g i j n : Nat} {v x y : Value} (hne : g ≠ b) (h : W.cell? ⟨g, i, none⟩ = some x ∧ W.cell? ⟨g, j, none⟩ = some y) :
    (W.setCell ⟨b, n, none⟩ v).cell? ⟨g, i, none⟩ = some x ∧ (W.setCell ⟨b, n, none⟩ v).cell? ⟨g, j, none⟩ = some y :=
  ⟨(World.cell?_setCell_other _ _ _ _ (fun e => hne (by injection e with e _; exact e.symm))).trans h.1, (World.cell?_setCell_other _ _ _ _ (fun e => hne (by injection e with e _; exact e.symm))).trans h.2⟩
theorem held_below3 {W w' : World} {g i j k : Nat} {x y z : Value} (hB : Below W.heap.size W w') (h : W.cell? ⟨g, i, none⟩ = some x ∧ W.cell? ⟨g, j, none⟩ = some y ∧ W.cell? ⟨g, k, none⟩ = some z) :
    w'.cell? ⟨g, i, none⟩ = some x ∧ w'.cell? ⟨g, j, none⟩ = some y ∧ w'.cell? ⟨g, k, none⟩ = some z :=
  ⟨(hB.cell (p := ⟨g, i, none⟩) (lt_of_cell h.1)).trans h.1, held_below2 hB h.2⟩
theorem held_set3 {W : World} {b g i j k n : Nat} {v x y z : Value} (hne : g ≠ b) (h : W.cell? ⟨g, i, none⟩ = some x ∧ W.cell? ⟨g, j, none⟩ = some y ∧ W.cell? ⟨g, k, none⟩ = some z) :
    (W.setCell ⟨b, n, none⟩ v).cell? ⟨g, i, none⟩ = some x ∧ (W.setCell ⟨b, n, none⟩ v).cell? ⟨g, j, none⟩ = some y ∧ (W.setCell ⟨b, n, none⟩ v).cell? ⟨g, k, none⟩ = some z :=
  ⟨(World.cell?_setCell_other _ _ _ _ (fun e => hne (by injection e with e _; exact e.symm))).trans h.1, held_set2 hne h.2⟩
theorem below_box {w w' : World} {o : Obj} (hB : Below (w.alloc o).drew.heap.size (w.alloc o).drew w') : Below w.heap.size w w' :=
  (below_drewN ((Below.refl w.heap.size w).alloc (Nat.le_refl _) o) 1).trans (hB.mono (by simp))
theorem box_ltd {w w1 : World} {o : Obj} (hB : Below (w.alloc o).drew.heap.size (w.alloc o).drew w1) : w.heap.size < w1.heap.size := by
  have := hB.size; simp at this; exact this
end Go.Proofs.Ytodpajnpnobfmaa
