/-
  THE DOCUMENT's Right of codes.
-/
import Derived.Test.YtmpjcfehabnhgaaDoorRCdB
import Derived.Deep.RegionHeld3
namespace Go.Proofs.YtmpjcfehabnhgaaDoor
open Go.RowKit
set_option linter.unusedVariables false
set_option linter.unusedSimpArgs false
open WordM (L)
open CodM (St Pg rightS rightT rightP)

theorem rightP_few {P : Pg} (h : 4 < P.init.length ∨ P.ths.length < 1 ∨ 3 < P.ths.length) : rightP P = false := by
  unfold rightP
  cases e : (decide (P.init.length ≤ 4) && (decide (1 ≤ P.ths.length) && decide (P.ths.length ≤ 3)) && P.ths.all (rightT P.init.length))
  · rfl
  · simp at e; omega
theorem rightP_no {P : Pg} {k : Nat} (hk : k < P.ths.length) (h : rightT P.init.length P.ths[k] = false) : rightP P = false := by
  unfold rightP
  rw [Bool.and_eq_false_iff]; right
  exact List.all_eq_false.2 ⟨_, List.getElem_mem hk, by simp [h]⟩
theorem rightP_all {P : Pg} (h : ¬ (4 < P.init.length ∨ P.ths.length < 1 ∨ 3 < P.ths.length)) (hall : ∀ k (hk : k < P.ths.length), rightT P.init.length P.ths[k] = true) : rightP P = true := by
  unfold rightP
  simp only [Bool.and_eq_true, decide_eq_true_eq, List.all_eq_true]
  refine ⟨⟨by omega, by omega, by omega⟩, fun ss hs => ?_⟩
  obtain ⟨j, hj, rfl⟩ := List.mem_iff_getElem.1 hs
  exact hall j hj
end Go.Proofs.YtmpjcfehabnhgaaDoor
