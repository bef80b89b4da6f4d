/-
  MATHEMATICS OF LAYER 8: a right program with fences is not too much; what right codes are bounded by.
-/
import Derived.Test.YtaelfjphgdlbcaaSlX
namespace Go.Proofs.Ytaelfjphgdlbcaa
open Go.RowKit
set_option linter.unusedVariables false
set_option linter.unusedSimpArgs false
open WordM (L)
open VM
open CodM (St Pg hasS cnt codP rightP)
open OpsM (Ln)
open SlM

theorem len_parts : ∀ ls : List Ln, ls.length = cnt ls + cM ls
  | [] => rfl
  | x :: r => by
    rw [List.length_cons, cnt_cons, len_parts r]
    have h : cM (x :: r) = (if hasS x then 0 else 1) + cM r := by
      unfold VM.cM
      by_cases c : x.op = 11
      · have h1 : hasS x = false := by unfold CodM.hasS; simp [c]
        have h2 : labB x = true := by unfold VM.labB; simp [c]
        rw [List.filter_cons_of_pos h2, h1, List.length_cons]; simp; omega
      · have h1 : hasS x = true := by unfold CodM.hasS; simp [c]
        have h2 : ¬ labB x = true := by unfold VM.labB; simp [c]
        rw [List.filter_cons_of_neg h2, h1]; simp
    rw [h]
    cases hasS x <;> simp <;> omega
theorem mem_fz {g : List Int} : ∀ (ls : List Ln) (n : Nat) (l : Ln), l ∈ fz hasS fenL g n ls → l = fenL ∨ l ∈ ls
  | [], n, l, h => by rw [fz] at h; cases h
  | x :: r, n, l, h => by
    rw [fz] at h
    rcases List.mem_append.1 h with h | h
    · split at h
      · exact .inl (List.mem_singleton.1 h)
      · cases h
    · rcases List.mem_cons.1 h with h | h
      · exact .inr (h ▸ List.mem_cons_self ..)
      · rcases mem_fz r _ l h with h | h
        · exact .inl h
        · exact .inr (List.mem_cons_of_mem _ h)
theorem small_fenF {F : Fl} (g : List Int) (h : Small F) (hr : VM.right F = true) : Small (fenF F g) := by
  refine ⟨by show (fzs hasS fenL g F.ths).length ≤ 9; rw [fzs_len]; exact h.n1, h.n2, h.n3, h.name, h.init, h.cond, fun j hj => ?_⟩
  have hj' : j < F.ths.length := by have := hj; change j < (fzs hasS fenL g F.ths).length at this; rwa [fzs_len] at this
  have e : (fenF F g).ths[j] = fz hasS fenL g (ahd hasS F.ths j) F.ths[j] := fzs_at hasS fenL g F.ths hj'
  rw [e]
  have hT := right_ths hr hj'
  refine ⟨?_, fun l hl => ?_⟩
  · have h1 := wthN_len (ch hasS F.ths g j) fenL F.ths[j] F.ths[j].length
    rw [wth_fz hasS fenL g F.ths hj' _ (Nat.le_refl _), List.take_length] at h1
    have h2 := len_parts F.ths[j]
    have h3 := CodM.cnt_many hT
    have h4 := cM_eight hT F.ths[j].length (Nat.le_refl _)
    rw [List.take_length] at h4
    omega
  · rcases mem_fz _ _ l hl with rfl | hl
    · exact ⟨by decide, by decide, by decide⟩
    · exact (h.ths j hj').2 l hl
/-- What right codes are bounded by. -/
structure CodB (P : Pg) : Prop where
  i : P.init.length ≤ 1000000
  l : P.ths.length ≤ 1000000
  s : ∀ ss ∈ P.ths, ss.length ≤ 1000000
  j : ∀ ss ∈ P.ths, ∀ s ∈ ss, jmpS s = true → 0 ≤ s.5 ∧ s.5 ≤ 1000000
theorem cod_b {P : Pg} (h : rightP P = true) : CodB P := by
  unfold CodM.rightP at h
  simp only [Bool.and_eq_true, decide_eq_true_eq, List.all_eq_true] at h
  refine ⟨by omega, by omega, fun ss hs => by have := (CodM.rightT_at (h.2 _ hs)).1; omega, fun ss hs s hx hj => ?_⟩
  obtain ⟨k, hk, rfl⟩ := List.mem_iff_getElem.1 hx
  obtain ⟨h80, h2⟩ := CodM.rightT_at (h.2 _ hs)
  have h1 := h2 k hk
  unfold CodM.rightS at h1
  simp only [Bool.and_eq_true, decide_eq_true_eq] at h1
  obtain ⟨⟨h2, h3⟩, -, -, -, h4⟩ := h1
  rw [jmpS_op h3, decide_eq_true_eq] at hj
  unfold CodM.hTo CodM.zOr at h4
  rw [decide_eq_true hj, if_pos rfl] at h4
  simp only [Bool.and_eq_true, decide_eq_true_eq] at h4
  omega
end Go.Proofs.Ytaelfjphgdlbcaa
