/-
  PLAIN MATHEMATICS OF LAYER 3: what a right line has not.
-/
import Derived.Test.YtgfhigcmcanbaaaDoorOpsM
namespace Go.Proofs.YtgfhigcmcanbaaaDoor
set_option linter.unusedVariables false
open WordM (L)

theorem right_split {op n : Int} {r o b : L} (h : OpsM.right op r o b n = true) :
    ((op = 1 ∨ op = 7) ∧ OpsM.regB r = true ∧ o = [] ∧ b = []) ∨ ((op = 2 ∨ op = 3 ∨ op = 5) ∧ OpsM.regB r = true ∧ WordM.nameB o = true ∧ b = [] ∧ n = 0) ∨ (op = 4 ∧ WordM.nameB o = true ∧ r = [] ∧ b = []) ∨
    (op = 6 ∧ r = [] ∧ o = [] ∧ b = [] ∧ n = 0) ∨ ((op = 8 ∨ op = 9 ∨ op = 10 ∨ op = 11) ∧ WordM.nameB b = true ∧ r = [] ∧ o = [] ∧ n = 0) := by
  rcases OpsM.right_cases (l := ⟨op, r, o, b, n⟩) h with ⟨ho, hk⟩ | ⟨ho, hk⟩ | ⟨ho, hk⟩ | ⟨ho, hk⟩ | ⟨ho, hk⟩ | ⟨ho, hk⟩ | ⟨ho, hk⟩ | ⟨ho, hk⟩ | ⟨ho, hk⟩ | ⟨ho, hk⟩ | ⟨ho, hk⟩
  · exact .inl ⟨.inl ho, OpsM.okNum_iff.1 hk⟩
  · exact .inr (.inl ⟨.inl ho, OpsM.okLoc_iff.1 hk⟩)
  · exact .inr (.inl ⟨.inr (.inl ho), OpsM.okLoc_iff.1 hk⟩)
  · exact .inr (.inr (.inl ⟨ho, OpsM.okPut_iff.1 hk⟩))
  · exact .inr (.inl ⟨.inr (.inr ho), OpsM.okLoc_iff.1 hk⟩)
  · exact .inr (.inr (.inr (.inl ⟨ho, OpsM.okFen_iff.1 hk⟩)))
  · exact .inl ⟨.inr ho, OpsM.okNum_iff.1 hk⟩
  · exact .inr (.inr (.inr (.inr ⟨.inl ho, OpsM.okLab_iff.1 hk⟩)))
  · exact .inr (.inr (.inr (.inr ⟨.inr (.inl ho), OpsM.okLab_iff.1 hk⟩)))
  · exact .inr (.inr (.inr (.inr ⟨.inr (.inr (.inl ho)), OpsM.okLab_iff.1 hk⟩)))
  · exact .inr (.inr (.inr (.inr ⟨.inr (.inr (.inr ho)), OpsM.okLab_iff.1 hk⟩)))
theorem regB_nil : OpsM.regB [] = false := by decide
theorem nameB_nil : WordM.nameB [] = false := by decide
theorem no_of {b : Bool} (h : ¬ b = true) : b = false := by simpa using h
theorem zero_reg {op n : Int} {o b s : L} (h : OpsM.right op [] o b n = true) (hs : s ≠ []) : OpsM.right op s o b n = false := by
  refine no_of fun k => ?_
  rcases right_split h with ⟨_, h1, _⟩ | ⟨_, h1, _⟩ | ⟨ho, h1⟩ | ⟨ho, h1⟩ | ⟨ho, h1⟩
  · rw [regB_nil] at h1; cases h1
  · rw [regB_nil] at h1; cases h1
  · rcases right_split k with ⟨g, _⟩ | ⟨g, _⟩ | ⟨g, k1, k2, _⟩ | ⟨g, _⟩ | ⟨g, _⟩ <;> first | omega | exact hs k2
  · rcases right_split k with ⟨g, _⟩ | ⟨g, _⟩ | ⟨g, _⟩ | ⟨g, k2, _⟩ | ⟨g, _⟩ <;> first | omega | exact hs k2
  · rcases right_split k with ⟨g, _⟩ | ⟨g, _⟩ | ⟨g, _⟩ | ⟨g, _⟩ | ⟨g, _, k2, _⟩ <;> first | omega | exact hs k2
theorem zero_loc {op n : Int} {r b s : L} (h : OpsM.right op r [] b n = true) (hs : s ≠ []) : OpsM.right op r s b n = false := by
  refine no_of fun k => ?_
  rcases right_split h with ⟨ho, h1⟩ | ⟨_, _, h1, _⟩ | ⟨_, h1, _⟩ | ⟨ho, h1⟩ | ⟨ho, h1⟩
  · rcases right_split k with ⟨g, _, k2, _⟩ | ⟨g, _⟩ | ⟨g, _⟩ | ⟨g, _⟩ | ⟨g, _⟩ <;> first | omega | exact hs k2
  · rw [nameB_nil] at h1; cases h1
  · rw [nameB_nil] at h1; cases h1
  · rcases right_split k with ⟨g, _⟩ | ⟨g, _⟩ | ⟨g, _⟩ | ⟨g, _, k2, _⟩ | ⟨g, _⟩ <;> first | omega | exact hs k2
  · rcases right_split k with ⟨g, _⟩ | ⟨g, _⟩ | ⟨g, _⟩ | ⟨g, _⟩ | ⟨g, _, _, k2, _⟩ <;> first | omega | exact hs k2
theorem zero_label {op n : Int} {r o s : L} (h : OpsM.right op r o [] n = true) (hs : s ≠ []) : OpsM.right op r o s n = false := by
  refine no_of fun k => ?_
  rcases right_split h with ⟨ho, h1⟩ | ⟨ho, h1⟩ | ⟨ho, h1⟩ | ⟨ho, h1⟩ | ⟨_, h1, _⟩
  · rcases right_split k with ⟨g, _, _, k2⟩ | ⟨g, _⟩ | ⟨g, _⟩ | ⟨g, _⟩ | ⟨g, _⟩ <;> first | omega | exact hs k2
  · rcases right_split k with ⟨g, _⟩ | ⟨g, _, _, k2, _⟩ | ⟨g, _⟩ | ⟨g, _⟩ | ⟨g, _⟩ <;> first | omega | exact hs k2
  · rcases right_split k with ⟨g, _⟩ | ⟨g, _⟩ | ⟨g, _, _, k2⟩ | ⟨g, _⟩ | ⟨g, _⟩ <;> first | omega | exact hs k2
  · rcases right_split k with ⟨g, _⟩ | ⟨g, _⟩ | ⟨g, _⟩ | ⟨g, _, _, k2, _⟩ | ⟨g, _⟩ <;> first | omega | exact hs k2
  · rw [nameB_nil] at h1; cases h1
def numB (op : Int) : Bool := decide (op = 1) || (decide (op = 4) || decide (op = 7))
theorem numB_n {op n m : Int} {r o b : L} (h : OpsM.right op r o b n = true) (hm : m ≠ 0) : OpsM.right op r o b m = numB op := by
  have hz : OpsM.nil0 m = false := decide_eq_false hm
  rcases right_split h with ⟨ho | ho, _⟩ | ⟨ho | ho | ho, _⟩ | ⟨ho, _⟩ | ⟨ho, _⟩ | ⟨ho | ho | ho | ho, _⟩
  all_goals (subst ho)
  all_goals first
    | exact h
    | (unfold OpsM.right OpsM.okLoc OpsM.okFen OpsM.okLab; simp [hz, numB])
theorem no_kind {op n : Int} {r o b : L} (h : op < 1 ∨ 11 < op) : OpsM.right op r o b n = false := by
  refine no_of fun k => ?_
  rcases right_split k with ⟨g, _⟩ | ⟨g, _⟩ | ⟨g, _⟩ | ⟨g, _⟩ | ⟨g, _⟩ <;> omega
end Go.Proofs.YtgfhigcmcanbaaaDoor
