/-
  PLAIN MATHEMATICS OF LAYER 3: how many words a line has, and how long they are.
-/
import Derived.Test.YtkkjodjachbifaaGreatDoorMath
namespace Go.Proofs.YtkkjodjachbifaaGreatDoor.OpsM
open WordM (L)
set_option linter.unusedVariables false
set_option linter.unusedSimpArgs false
theorem wordsR_all (P : L → Prop) (op : Int) (r o b : L) (n : Int) (k1 : P kmov) (k2 : P kxchg) (k3 : P kmfence) (k4 : P kcmp) (k5 : P kjmp) (k6 : P kje) (k7 : P kjne) (hr : P r) (ho : P (brk o)) (ht : P (NumM.text n)) (hb : P b) (hc : P (col b)) :
    (∀ l ∈ wordsR op r o b n, P l) ∧ 1 ≤ (wordsR op r o b n).length ∧ (wordsR op r o b n).length ≤ 3 := by
  have three : ∀ x y z : L, P x → P y → P z → (∀ l ∈ [x, y, z], P l) ∧ 1 ≤ [x, y, z].length ∧ [x, y, z].length ≤ 3 := fun x y z hx hy hz => ⟨fun l hl => by
    rcases List.mem_cons.1 hl with rfl | hl
    · exact hx
    · rcases List.mem_cons.1 hl with rfl | hl
      · exact hy
      · rw [List.mem_singleton.1 hl]; exact hz, by simp, by simp⟩
  have two : ∀ x y : L, P x → P y → (∀ l ∈ [x, y], P l) ∧ 1 ≤ [x, y].length ∧ [x, y].length ≤ 3 := fun x y hx hy => ⟨fun l hl => by
    rcases List.mem_cons.1 hl with rfl | hl
    · exact hx
    · rw [List.mem_singleton.1 hl]; exact hy, by simp, by simp⟩
  have one : ∀ x : L, P x → (∀ l ∈ [x], P l) ∧ 1 ≤ [x].length ∧ [x].length ≤ 3 := fun x hx => ⟨fun l hl => by rw [List.mem_singleton.1 hl]; exact hx, by simp, by simp⟩
  unfold wordsR
  by_cases h1 : op = 1
  · rw [if_pos h1]
    exact three _ _ _ k1 hr ht
  by_cases h2 : op = 2
  · rw [if_neg h1, if_pos h2]
    exact three _ _ _ k1 hr ho
  by_cases h3 : op = 3
  · rw [if_neg h1, if_neg h2, if_pos h3]
    exact three _ _ _ k1 ho hr
  by_cases h4 : op = 4
  · rw [if_neg h1, if_neg h2, if_neg h3, if_pos h4]
    exact three _ _ _ k1 ho ht
  by_cases h5 : op = 5
  · rw [if_neg h1, if_neg h2, if_neg h3, if_neg h4, if_pos h5]
    exact three _ _ _ k2 ho hr
  by_cases h6 : op = 6
  · rw [if_neg h1, if_neg h2, if_neg h3, if_neg h4, if_neg h5, if_pos h6]
    exact one _ k3
  by_cases h7 : op = 7
  · rw [if_neg h1, if_neg h2, if_neg h3, if_neg h4, if_neg h5, if_neg h6, if_pos h7]
    exact three _ _ _ k4 hr ht
  by_cases h8 : op = 8
  · rw [if_neg h1, if_neg h2, if_neg h3, if_neg h4, if_neg h5, if_neg h6, if_neg h7, if_pos h8]
    exact two _ _ k5 hb
  by_cases h9 : op = 9
  · rw [if_neg h1, if_neg h2, if_neg h3, if_neg h4, if_neg h5, if_neg h6, if_neg h7, if_neg h8, if_pos h9]
    exact two _ _ k6 hb
  by_cases h10 : op = 10
  · rw [if_neg h1, if_neg h2, if_neg h3, if_neg h4, if_neg h5, if_neg h6, if_neg h7, if_neg h8, if_neg h9, if_pos h10]
    exact two _ _ k7 hb
  rw [if_neg h1, if_neg h2, if_neg h3, if_neg h4, if_neg h5, if_neg h6, if_neg h7, if_neg h8, if_neg h9, if_neg h10]
  exact one _ hc
theorem words_len_any (op : Int) (r o b : L) (n : Int) : (words op r o b n).length ≤ 3 := by
  unfold words
  split
  · exact (wordsR_all (fun _ => True) op r o b n trivial trivial trivial trivial trivial trivial trivial trivial trivial trivial trivial trivial).2.2
  · exact Nat.zero_le _
theorem words_pos_len (op : Int) (r o b : L) (n : Int) (h : right op r o b n = true) : 1 ≤ (words op r o b n).length := by
  unfold words
  rw [if_pos h]
  exact (wordsR_all (fun _ => True) op r o b n trivial trivial trivial trivial trivial trivial trivial trivial trivial trivial trivial trivial).2.1
theorem words_small {op n : Int} {r o b : L} (hn : NumM.inR n) (hr : r.length ≤ 1000) (ho : o.length ≤ 1000) (hb : b.length ≤ 1000) : ∀ l ∈ words op r o b n, l.length ≤ 2000 := by
  have ht := NumM.text_len n hn
  have hk : (brk o).length ≤ 2000 := by simp [brk]; omega
  have hc : (col b).length ≤ 2000 := by simp [col]; omega
  unfold words
  split
  · exact (wordsR_all (fun l => l.length ≤ 2000) op r o b n (by decide) (by decide) (by decide) (by decide) (by decide) (by decide) (by decide) (by show r.length ≤ 2000; omega) hk (by show (NumM.text n).length ≤ 2000; omega) (by show b.length ≤ 2000; omega) hc).1
  · intro l hl; simp at hl
end Go.Proofs.YtkkjodjachbifaaGreatDoor.OpsM
