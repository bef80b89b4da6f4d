/-
  A CODE SPOILT, as mathematics.
-/
import Derived.Test.YtaelfjphgdlbcaaGreatDoorCodR
namespace Go.Proofs.YtaelfjphgdlbcaaGreatDoor.CodM
set_option linter.unusedVariables false
set_option linter.unusedSimpArgs false

/-- A step spoilt in one of seven ways. -/
def spoil (many len k m : Nat) (s : St) : St :=
  if m = 0 then ⟨11, s.reg, s.loc, s.n, s.to⟩ else if m = 1 then ⟨0, s.reg, s.loc, s.n, s.to⟩ else if m = 2 then ⟨s.op, 4, s.loc, s.n, s.to⟩
  else if m = 3 then ⟨s.op, s.reg, if hLoc s.op then many else 1, s.n, s.to⟩ else if m = 4 then ⟨s.op, s.reg, s.loc, s.n, len + 1⟩
  else if m = 5 then ⟨s.op, -1, s.loc, s.n, s.to⟩ else ⟨s.op, s.reg, s.loc, s.n, if 8 ≤ s.op then k else -1⟩
theorem spoil_no (many len k m : Nat) (s : St) : rightS many len k (spoil many len k m s) = false := by
  unfold spoil
  split
  · unfold rightS; simp
  split
  · unfold rightS; simp
  split
  · unfold rightS zOr
    have : (if hReg s.op = true then decide ((0 : Int) ≤ 4) && decide ((4 : Int) ≤ 3) else decide ((4 : Int) = 0)) = false := by split <;> rfl
    simp only [this, Bool.false_and, Bool.and_false]
  split
  · unfold rightS
    have : zOr (hLoc s.op) (if hLoc s.op then (many : Int) else 1) 0 ((many : Int) - 1) = false := by
      unfold zOr
      cases hLoc s.op
      · rfl
      · simp; omega
    simp only [this, Bool.false_and, Bool.and_false]
  split
  · unfold rightS
    have : zOr (hTo s.op) ((len : Int) + 1) ((k : Int) + 1) (len : Int) = false := by
      unfold zOr
      cases hTo s.op
      · simp; omega
      · simp; omega
    simp only [this, Bool.false_and, Bool.and_false]
  split
  · unfold rightS zOr
    have : (if hReg s.op = true then decide ((0 : Int) ≤ -1) && decide ((-1 : Int) ≤ 3) else decide ((-1 : Int) = 0)) = false := by split <;> rfl
    simp only [this, Bool.false_and, Bool.and_false]
  · unfold rightS
    have : zOr (hTo s.op) (if 8 ≤ s.op then (k : Int) else -1) ((k : Int) + 1) (len : Int) = false := by
      unfold zOr hTo
      by_cases c : 8 ≤ s.op
      · simp [c]; omega
      · simp [c]
    simp only [this, Bool.false_and, Bool.and_false]
theorem set_no {P : Pg} {t k : Nat} (ht : t < P.ths.length) (hk : k < P.ths[t].length) {x : St} (h : rightS P.init.length P.ths[t].length k x = false) :
    rightP ⟨P.init, P.ths.set t (P.ths[t].set k x)⟩ = false := by
  unfold rightP
  rw [Bool.and_eq_false_iff]; right
  rw [List.all_eq_false]
  refine ⟨P.ths[t].set k x, List.mem_iff_getElem.2 ⟨t, by simpa using ht, by simp⟩, ?_⟩
  rw [rightT_no (k := k) (by simpa using hk) (by simpa using h)]
  decide
theorem set_parts {α : Type} {l : List α} {k : Nat} (hk : k < l.length) (x : α) : l.take k ++ [x] ++ l.drop (k + 1) = l.set k x := by
  rw [List.set_eq_take_append_cons_drop, if_pos hk, List.append_assoc]; rfl
end Go.Proofs.YtaelfjphgdlbcaaGreatDoor.CodM
