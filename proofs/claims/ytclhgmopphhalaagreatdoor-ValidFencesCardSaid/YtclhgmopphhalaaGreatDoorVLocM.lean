/-
  A RIGHT PROGRAM'S NAMES: its locations have right names, are at most four; membership, name by name.
-/
import Derived.Test.YtclhgmopphhalaaGreatDoorLocsR
import Derived.Test.YtclhgmopphhalaaGreatDoorLineF
namespace Go.Proofs.YtclhgmopphhalaaGreatDoor
open Go.RowKit
set_option linter.unusedVariables false
set_option linter.unusedSimpArgs false
open WordM (L)
open VM

theorem right_loc {x : OpsM.Ln} (h : OpsM.rightL x = true) : x.loc = [] ∨ WordM.nameB x.loc = true := by
  unfold OpsM.rightL OpsM.right at h
  by_cases h1 : x.op = 1
  · rw [if_pos h1] at h
    simp only [OpsM.okNum, OpsM.okLoc, OpsM.okLab, OpsM.okPut, OpsM.okFen, OpsM.emp, Bool.and_eq_true, decide_eq_true_eq] at h
    exact Or.inl h.2.1
  rw [if_neg h1] at h
  by_cases h2 : x.op = 2
  · rw [if_pos h2] at h
    simp only [OpsM.okNum, OpsM.okLoc, OpsM.okLab, OpsM.okPut, OpsM.okFen, OpsM.emp, Bool.and_eq_true, decide_eq_true_eq] at h
    exact Or.inr h.2.1
  rw [if_neg h2] at h
  by_cases h3 : x.op = 3
  · rw [if_pos h3] at h
    simp only [OpsM.okNum, OpsM.okLoc, OpsM.okLab, OpsM.okPut, OpsM.okFen, OpsM.emp, Bool.and_eq_true, decide_eq_true_eq] at h
    exact Or.inr h.2.1
  rw [if_neg h3] at h
  by_cases h4 : x.op = 4
  · rw [if_pos h4] at h
    simp only [OpsM.okNum, OpsM.okLoc, OpsM.okLab, OpsM.okPut, OpsM.okFen, OpsM.emp, Bool.and_eq_true, decide_eq_true_eq] at h
    exact Or.inr h.1
  rw [if_neg h4] at h
  by_cases h5 : x.op = 5
  · rw [if_pos h5] at h
    simp only [OpsM.okNum, OpsM.okLoc, OpsM.okLab, OpsM.okPut, OpsM.okFen, OpsM.emp, Bool.and_eq_true, decide_eq_true_eq] at h
    exact Or.inr h.2.1
  rw [if_neg h5] at h
  by_cases h6 : x.op = 6
  · rw [if_pos h6] at h
    simp only [OpsM.okNum, OpsM.okLoc, OpsM.okLab, OpsM.okPut, OpsM.okFen, OpsM.emp, Bool.and_eq_true, decide_eq_true_eq] at h
    exact Or.inl h.2.1
  rw [if_neg h6] at h
  by_cases h7 : x.op = 7
  · rw [if_pos h7] at h
    simp only [OpsM.okNum, OpsM.okLoc, OpsM.okLab, OpsM.okPut, OpsM.okFen, OpsM.emp, Bool.and_eq_true, decide_eq_true_eq] at h
    exact Or.inl h.2.1
  rw [if_neg h7] at h
  by_cases h8 : x.op = 8
  · rw [if_pos h8] at h
    simp only [OpsM.okNum, OpsM.okLoc, OpsM.okLab, OpsM.okPut, OpsM.okFen, OpsM.emp, Bool.and_eq_true, decide_eq_true_eq] at h
    exact Or.inl h.2.2.1
  rw [if_neg h8] at h
  by_cases h9 : x.op = 9
  · rw [if_pos h9] at h
    simp only [OpsM.okNum, OpsM.okLoc, OpsM.okLab, OpsM.okPut, OpsM.okFen, OpsM.emp, Bool.and_eq_true, decide_eq_true_eq] at h
    exact Or.inl h.2.2.1
  rw [if_neg h9] at h
  by_cases h10 : x.op = 10
  · rw [if_pos h10] at h
    simp only [OpsM.okNum, OpsM.okLoc, OpsM.okLab, OpsM.okPut, OpsM.okFen, OpsM.emp, Bool.and_eq_true, decide_eq_true_eq] at h
    exact Or.inl h.2.2.1
  rw [if_neg h10] at h
  by_cases h11 : x.op = 11
  · rw [if_pos h11] at h
    simp only [OpsM.okNum, OpsM.okLoc, OpsM.okLab, OpsM.okPut, OpsM.okFen, OpsM.emp, Bool.and_eq_true, decide_eq_true_eq] at h
    exact Or.inl h.2.2.1
  rw [if_neg h11] at h
  cases h
theorem name_len {l : L} (h : WordM.nameB l = true) : l.length ≤ 8 := by
  unfold WordM.nameB at h
  simp only [Bool.and_eq_true] at h
  exact ((WordM.speltB_iff l).1 h.1.1).2.1
theorem lineT_zero {ts : List (List OpsM.Ln)} (h : (lineT ts).2.2 = 0) : ∀ j, j < ts.length → thC (ts.getD j []) = none := by
  intro j hj
  cases e : firstAt (thG ts) ts.length with
  | none =>
    have := firstAt_none.1 e j hj
    unfold thG at this
    cases e2 : thC (ts.getD j []) with
    | none => rfl
    | some k => rw [e2] at this; exact absurd this (by simp)
  | some i =>
    obtain ⟨hi, hne, hall⟩ := firstAt_some e
    have hall' : ∀ j, j < i → thC (ts.getD j []) = none := by
      intro j hj
      have := hall j hj
      unfold thG at this
      cases e2 : thC (ts.getD j []) with
      | none => rfl
      | some k => rw [e2] at this; exact absurd this (by simp)
    cases e2 : thC (ts.getD i []) with
    | none => unfold thG at hne; rw [e2] at hne; exact absurd rfl hne
    | some k =>
      obtain ⟨hk, hn2, hal⟩ := firstAt_some e2
      rw [lineT_hit hi hall' hk hal hn2] at h
      exact absurd h hn2
theorem line_right {ls : List OpsM.Ln} (h : thC ls = none) {x : OpsM.Ln} (hx : x ∈ ls) : OpsM.rightL x = true := by
  obtain ⟨j, hj, rfl⟩ := List.mem_iff_getElem.1 hx
  have := firstAt_none.1 h j hj
  rw [lnC_take ls j hj] at this
  unfold lineC at this
  by_cases c : OpsM.rightL ls[j] = false
  · rw [if_pos c] at this; cases this
  · simpa using c
theorem tnames_mem : ∀ (ts : List (List OpsM.Ln)) (s : L), s ∈ tnames ts → ∃ ls, ls ∈ ts ∧ ∃ x, x ∈ ls ∧ x.loc = s ∧ s ≠ []
  | [], s, h => by simp [tnames] at h
  | ls :: r, s, h => by
    rcases List.mem_append.1 h with h | h
    · obtain ⟨h1, h2⟩ := List.mem_filter.1 h
      obtain ⟨x, hx, rfl⟩ := List.mem_map.1 h1
      exact ⟨ls, by simp, x, hx, rfl, by simpa using h2⟩
    · obtain ⟨l2, h1, h2⟩ := tnames_mem r s h
      exact ⟨l2, by simp [h1], h2⟩
/-- A right program's locations have right names. -/
theorem locs_names {F : Fl} (h : VM.right F = true) {s : L} (hs : s ∈ locs F) : WordM.nameB s = true := by
  obtain ⟨h1, h2, h3, _⟩ := right_zero h
  have hn := names_ok h1 h3
  rcases List.mem_append.1 ((locs_mem' hn s).1 hs) with k | k
  · obtain ⟨c, hc, rfl⟩ := List.mem_map.1 k
    obtain ⟨j, hj, rfl⟩ := List.mem_iff_getElem.1 hc
    exact cell_name hj (cellsC_zero (frameC_zero h1).2 j hj)
  · rcases List.mem_append.1 k with k | k
    · obtain ⟨ls, hl, x, hx, rfl, hne⟩ := tnames_mem _ _ k
      obtain ⟨j, hj, rfl⟩ := List.mem_iff_getElem.1 hl
      have := lineT_zero h2 j hj
      rw [getD_at _ _ _ hj] at this
      rcases right_loc (line_right this hx) with e | e
      · exact absurd e hne
      · exact e
    · obtain ⟨a, ha, rfl⟩ := List.mem_map.1 k
      obtain ⟨hm, ht⟩ := List.mem_filter.1 ha
      obtain ⟨j, hj, rfl⟩ := List.mem_iff_getElem.1 hm
      have hq := atom_asked hj (atomT_zero h3 j hj)
      have ht' : (F.cond[j]).t = -1 := by simpa using ht
      unfold AtomM.askedA AtomM.asked at hq
      rw [if_pos ht'] at hq
      exact hq
theorem locs_four {F : Fl} (h : VM.right F = true) : (locs F).length ≤ 4 := by
  have := (right_zero h).2.2.2
  unfold locC at this
  by_cases c : 4 < (locs F).length
  · rw [if_pos c] at this; cases this
  · omega
theorem mem_snoc (s x : L) (l : List L) : decide (s ∈ l ++ [x]) = (decide (s ∈ l) || (x == s)) := by
  rw [beq_dec, ← Bool.decide_or]
  exact decide_eq_decide.2 (by simp [eq_comm])
/-- One name more: the test on what was, and on this one. -/
theorem mem_step {s x : L} {l l' : List L} (e : l' = l ++ [x]) {b : Bool} (hb : decide (s ∈ l) = b) : decide (s ∈ l') = (b || (x == s)) := by rw [e, mem_snoc, hb]
end Go.Proofs.YtclhgmopphhalaaGreatDoor
