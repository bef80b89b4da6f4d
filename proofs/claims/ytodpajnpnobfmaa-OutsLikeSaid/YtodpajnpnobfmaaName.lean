/-
  names and registers of package word, over any world.
-/
import Derived.Test.YtodpajnpnobfmaaKit
import Derived.Test.YtodpajnpnobfmaaNameM
set_option linter.unusedSimpArgs false
namespace Go.Proofs.Ytodpajnpnobfmaa
open Go.RowKit
open WordM (L)
set_option linter.unusedVariables false
theorem regNo_bools (l : L) : WordM.regNo l = if decide (l = WordM.regL 0) then 0 else if decide (l = WordM.regL 1) then 1 else if decide (l = WordM.regL 2) then 2 else if decide (l = WordM.regL 3) then 3 else -1 := by
  unfold WordM.regNo; simp only [decide_eq_true_eq]
/-- At a round of spelt: the bytes ahead of k are letters or digits. -/
def SpRel (s : ByteArray) (i : Value) : Prop := ∃ k : Nat, k ≤ s.size ∧ i = .int .i64 k ∧ ∀ j (h : j < s.size), j < k → WordM.alnum s[j] = true
theorem sprel_next {s : ByteArray} {k : Nat} (hk : k < s.size) (h : WordM.alnum s[k] = true) (hall : ∀ j (h : j < s.size), j < k → WordM.alnum s[j] = true) : SpRel s (.int .i64 ((k : Int) + 1)) :=
  ⟨k + 1, by omega, by go_num, fun j hj h1 => by
    by_cases e : j = k
    · subst e; exact h
    · exact hall j hj (by omega)⟩
theorem spelt_false (s : ByteArray) (k : Nat) (hk : k < s.size) (h : WordM.alnum s[k] = false) : WordM.speltB s.data.toList = false :=
  WordM.speltB_at s.data.toList k (by rw [← Lib.size_eq]; exact hk) h
theorem spelt_true (s : ByteArray) (h0 : 0 < s.size) (h8 : s.size ≤ 8) (hh : WordM.letterB s[0] = true) (ha : ∀ k (hk : k < s.size), k < s.size → WordM.alnum s[k] = true) : WordM.speltB s.data.toList = true := by
  refine WordM.speltB_yes _ (by intro e; have := Lib.size_eq s; rw [e, List.length_nil] at this; omega) (by rw [← Lib.size_eq]; exact h8) ?_ fun k hk => ha k (by rw [Lib.size_eq]; exact hk) (by rw [Lib.size_eq]; exact hk)
  rw [head_at s h0]; exact hh
end Go.Proofs.Ytodpajnpnobfmaa
