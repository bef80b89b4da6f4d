/-
  the document's names and registers, over any world.
-/
import Derived.Test.YtaelfjphgdlbcaaGreatDoorNamOp
namespace Go.Proofs.YtaelfjphgdlbcaaGreatDoor
open Go.RowKit
open WordM (L)
set_option linter.unusedVariables false
/-- At a round of the document's Reg: the registers ahead of k are others. -/
def RegRel (s : ByteArray) (w : World) (i : Value) (wr : World) : Prop := ∃ k : Nat, k ≤ 4 ∧ i = .int .i64 k ∧ (∀ j, j < k → s.data.toList ≠ WordM.regL j) ∧ Below w.heap.size w wr
theorem regNo_at (l : L) (k : Nat) (hk : k < 4) (h : l = WordM.regL k) : WordM.regNo l = k := by rw [h]; exact WordM.regNo_name k hk
theorem regNo_none (l : L) (h : ∀ j, j < 4 → l ≠ WordM.regL j) : WordM.regNo l = -1 := by
  unfold WordM.regNo
  rw [if_neg (h 0 (by omega)), if_neg (h 1 (by omega)), if_neg (h 2 (by omega)), if_neg (h 3 (by omega))]
theorem regrel_next {s : ByteArray} {w wr w1 : World} {k : Nat} (hk : k < 4) (h : s.data.toList ≠ WordM.regL k) (hall : ∀ j, j < k → s.data.toList ≠ WordM.regL j) (hB : Below w.heap.size w wr) (hb : Below wr.heap.size wr w1) :
    RegRel s w (.int .i64 ((k : Int) + 1)) w1 :=
  ⟨k + 1, by omega, by go_num, fun j hj => by
    by_cases e : j = k
    · subst e; exact h
    · exact hall j (by omega), chain hB hb⟩
/-- At a round of the document's Name: the bytes ahead of k are right. -/
def okAt (s : ByteArray) (j : Nat) (h : j < s.size) : Bool := WordM.letterB s[j] || (WordM.digitB s[j] && decide (j ≠ 0))
def NmRel (s : ByteArray) (i : Value) : Prop := ∃ k : Nat, k ≤ s.size ∧ i = .int .i64 k ∧ ∀ j (h : j < s.size), j < k → okAt s j h = true
theorem nmrel_next {s : ByteArray} {k : Nat} (hk : k < s.size) (h : okAt s k hk = true) (hall : ∀ j (h : j < s.size), j < k → okAt s j h = true) : NmRel s (.int .i64 ((k : Int) + 1)) :=
  ⟨k + 1, by omega, by go_num, fun j hj h1 => by
    by_cases e : j = k
    · subst e; exact h
    · exact hall j hj (by omega)⟩
theorem name_bad (s : ByteArray) (k : Nat) (hk : k < s.size) (h : okAt s k hk = false) : WordM.nameB s.data.toList = false := by
  have : WordM.speltB s.data.toList = false := by
    unfold okAt at h
    rw [Bool.or_eq_false_iff, Bool.and_eq_false_iff] at h
    rcases h.2 with h2 | h2
    · exact spelt_false s k hk (by unfold WordM.alnum; rw [h.1, h2]; rfl)
    · simp at h2
      subst h2
      exact WordM.speltB_head _ (by rw [head_at s hk]; exact h.1)
  unfold WordM.nameB; rw [this]; rfl
theorem spelt_ok (s : ByteArray) (h : ∀ j (h : j < s.size), okAt s j h = true) : WordM.speltB s.data.toList = (decide (1 ≤ s.size) && decide (s.size ≤ 8)) := by
  by_cases h0 : 1 ≤ s.size
  · by_cases h8 : s.size ≤ 8
    · rw [decide_eq_true h0, decide_eq_true h8]
      refine spelt_true s h0 h8 ?_ fun k hk _ => ?_
      · have := h 0 h0
        unfold okAt at this
        simpa using this
      · have := h k hk
        unfold okAt at this
        unfold WordM.alnum
        revert this
        cases WordM.letterB s[k] <;> cases WordM.digitB s[k] <;> simp
    · rw [decide_eq_false h8, Bool.and_false]
      exact WordM.speltB_long _ (by rw [← Lib.size_eq]; omega)
  · rw [decide_eq_false h0, Bool.false_and]
    have e : s.data.toList = [] := by have := Lib.size_eq s; exact List.eq_nil_of_length_eq_zero (by omega)
    rw [e]; rfl
end Go.Proofs.YtaelfjphgdlbcaaGreatDoor
