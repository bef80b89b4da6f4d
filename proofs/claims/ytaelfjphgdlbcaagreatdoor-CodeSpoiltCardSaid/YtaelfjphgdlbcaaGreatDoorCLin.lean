/-
  CodeLines, as a walk over any world that holds the listed variables: it returns true.
-/
import Derived.Test.YtaelfjphgdlbcaaGreatDoorCHa
import Derived.Test.YtaelfjphgdlbcaaGreatDoorGreat
namespace Go.Proofs.YtaelfjphgdlbcaaGreatDoor
open Go.RowKit
set_option linter.unusedVariables false
set_option linter.unusedSimpArgs false
open WordM (L)
open VM
open CodM (St Pg hasS cnt atI lineI lnP)

theorem cd_ths {F : Fl} (h : Small F) : F.ths.length ≤ 1000000 ∧ ∀ ls ∈ F.ths, ls.length ≤ 1000000 := by
  refine ⟨by have := h.n1; omega, fun ls hl => ?_⟩
  obtain ⟨j, hj, rfl⟩ := List.mem_iff_getElem.1 hl
  have := (h.ths j hj).1
  omega
theorem mod_lay (a n : Nat) (hn : 0 < n) : ∃ t : Nat, t < n ∧ (a : Int).tmod (n : Int) = (t : Int) ∧ (a : Int) % (n : Int) = (t : Int) := by
  refine ⟨a % n, Nat.mod_lt _ hn, ?_, ?_⟩
  · rw [Int.tmod_eq_emod_of_nonneg (by omega)]; omega
  · omega
end Go.Proofs.YtaelfjphgdlbcaaGreatDoor
