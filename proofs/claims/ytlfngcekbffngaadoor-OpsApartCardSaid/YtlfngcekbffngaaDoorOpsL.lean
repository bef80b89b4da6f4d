/-
  PLAIN MATHEMATICS OF LAYER 3: lengths.
-/
import Derived.Test.YtlfngcekbffngaaDoorOpsM
namespace Go.Proofs.YtlfngcekbffngaaDoor.OpsM
open WordM (L)
set_option linter.unusedVariables false

theorem offEnd_len (c : UInt8) (s : L) : (offEnd c s).length ≤ s.length := by
  unfold offEnd; split <;> simp
theorem offHead_len (c : UInt8) (s : L) : (offHead c s).length ≤ s.length := by
  unfold offHead; split <;> simp
theorem inside_len (s : L) : (inside s).length ≤ s.length := Nat.le_trans (offEnd_len _ _) (offHead_len _ _)
theorem made_len (w : List L) (N : Nat) (h : ∀ l ∈ w, l.length ≤ N) : (made w).loc.length ≤ N ∧ (made w).label.length ≤ N := by
  have z : ([] : L).length ≤ N := Nat.zero_le _
  match w with
  | [] => exact ⟨z, z⟩
  | [a] =>
    have := offEnd_len 58 a
    have := h a (by simp)
    show (alone a).loc.length ≤ N ∧ (alone a).label.length ≤ N
    unfold alone; split
    · exact ⟨z, z⟩
    · exact ⟨z, by show (offEnd 58 a).length ≤ N; omega⟩
  | [a, b] =>
    have hb := h b (by simp)
    show (jumped a b).loc.length ≤ N ∧ (jumped a b).label.length ≤ N
    unfold jumped; split
    · exact ⟨z, hb⟩
    · split
      · exact ⟨z, hb⟩
      · split
        · exact ⟨z, hb⟩
        · exact ⟨z, z⟩
  | [a, b, c] =>
    have hb := h b (by simp)
    have hc := h c (by simp)
    have ib := inside_len b
    have ic := inside_len c
    have jb : (inside b).length ≤ N := by omega
    have jc : (inside c).length ≤ N := by omega
    show (worked a b c).loc.length ≤ N ∧ (worked a b c).label.length ≤ N
    unfold worked; split
    · unfold moved; split
      · split
        · exact ⟨z, z⟩
        · exact ⟨jb, z⟩
      · split
        · exact ⟨jc, z⟩
        · exact ⟨jb, z⟩
    · split
      · exact ⟨jb, z⟩
      · split
        · exact ⟨z, z⟩
        · exact ⟨z, z⟩
  | _ :: _ :: _ :: _ :: _ => exact ⟨z, z⟩
end Go.Proofs.YtlfngcekbffngaaDoor.OpsM
