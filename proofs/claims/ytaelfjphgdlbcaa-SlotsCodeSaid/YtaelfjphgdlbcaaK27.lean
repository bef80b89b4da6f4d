/-
  valid.Locs: the locations of a right program, rising.
  A RIGHT PROGRAM'S NAMES: its locations have right names, are at most four; membership, name by name.
  A RIGHT THREAD'S LABELS, FENCES AND COUNTS, as mathematics; a thread with lines behind it; a thread with a fence more.
  THE CODE OF A RIGHT PROGRAM IS RIGHT, as mathematics.
-/
import Derived.Test.YtaelfjphgdlbcaaM16
import Derived.Test.YtaelfjphgdlbcaaM04
import Derived.Test.YtaelfjphgdlbcaaM03
import Derived.Test.YtaelfjphgdlbcaaM02
namespace Go.Proofs.Ytaelfjphgdlbcaa
open Go.RowKit Go.WideMaps Go.Maps
set_option linter.unusedVariables false
set_option linter.unusedSimpArgs false
open WordM (L)
open VM

theorem right_zero {F : Fl} (h : VM.right F = true) : frameC F = 0 ∧ (lineT F.ths).2.2 = 0 ∧ (atomT F.ths.length F.cond).2.2 = 0 ∧ locC F = 0 := by
  have hz : (chk F).2.2 = 0 := by unfold VM.right at h; simpa using h
  unfold chk at hz
  by_cases h1 : frameC F ≠ 0
  · rw [if_pos h1] at hz; exact absurd hz h1
  rw [if_neg h1] at hz
  by_cases h2 : (lineT F.ths).2.2 ≠ 0
  · rw [if_pos h2] at hz; exact absurd hz h2
  rw [if_neg h2] at hz
  by_cases h3 : (atomT F.ths.length F.cond).2.2 ≠ 0
  · rw [if_pos h3] at hz; exact absurd hz h3
  rw [if_neg h3] at hz
  by_cases h4 : locC F ≠ 0
  · rw [if_pos h4] at hz; exact absurd hz h4
  exact ⟨by omega, by omega, by omega, by omega⟩
end Go.Proofs.Ytaelfjphgdlbcaa
namespace Go.Proofs.Ytaelfjphgdlbcaa
open Go.RowKit
set_option linter.unusedVariables false
set_option linter.unusedSimpArgs false
open WordM (L)
open VM

theorem right_loc {x : OpsM.Ln} (h : OpsM.rightL x = true) : x.loc = [] ∨ WordM.nameB x.loc = true := by
  unfold OpsM.rightL OpsM.right at h
  by_cases h1 : x.op = 1
  · rw [if_pos h1] at h
    simp only [OpsM.okNum, OpsM.okLoc, OpsM.okLab, OpsM.okPut, OpsM.okFen, OpsM.emp, Bool.and_eq_true, decide_eq_true_eq] at h
    exact Or.inl h.2.1
  rw [if_neg h1] at h
  by_cases h2 : x.op = 2
  · rw [if_pos h2] at h
    simp only [OpsM.okNum, OpsM.okLoc, OpsM.okLab, OpsM.okPut, OpsM.okFen, OpsM.emp, Bool.and_eq_true, decide_eq_true_eq] at h
    exact Or.inr h.2.1
  rw [if_neg h2] at h
  by_cases h3 : x.op = 3
  · rw [if_pos h3] at h
    simp only [OpsM.okNum, OpsM.okLoc, OpsM.okLab, OpsM.okPut, OpsM.okFen, OpsM.emp, Bool.and_eq_true, decide_eq_true_eq] at h
    exact Or.inr h.2.1
  rw [if_neg h3] at h
  by_cases h4 : x.op = 4
  · rw [if_pos h4] at h
    simp only [OpsM.okNum, OpsM.okLoc, OpsM.okLab, OpsM.okPut, OpsM.okFen, OpsM.emp, Bool.and_eq_true, decide_eq_true_eq] at h
    exact Or.inr h.1
  rw [if_neg h4] at h
  by_cases h5 : x.op = 5
  · rw [if_pos h5] at h
    simp only [OpsM.okNum, OpsM.okLoc, OpsM.okLab, OpsM.okPut, OpsM.okFen, OpsM.emp, Bool.and_eq_true, decide_eq_true_eq] at h
    exact Or.inr h.2.1
  rw [if_neg h5] at h
  by_cases h6 : x.op = 6
  · rw [if_pos h6] at h
    simp only [OpsM.okNum, OpsM.okLoc, OpsM.okLab, OpsM.okPut, OpsM.okFen, OpsM.emp, Bool.and_eq_true, decide_eq_true_eq] at h
    exact Or.inl h.2.1
  rw [if_neg h6] at h
  by_cases h7 : x.op = 7
  · rw [if_pos h7] at h
    simp only [OpsM.okNum, OpsM.okLoc, OpsM.okLab, OpsM.okPut, OpsM.okFen, OpsM.emp, Bool.and_eq_true, decide_eq_true_eq] at h
    exact Or.inl h.2.1
  rw [if_neg h7] at h
  by_cases h8 : x.op = 8
  · rw [if_pos h8] at h
    simp only [OpsM.okNum, OpsM.okLoc, OpsM.okLab, OpsM.okPut, OpsM.okFen, OpsM.emp, Bool.and_eq_true, decide_eq_true_eq] at h
    exact Or.inl h.2.2.1
  rw [if_neg h8] at h
  by_cases h9 : x.op = 9
  · rw [if_pos h9] at h
    simp only [OpsM.okNum, OpsM.okLoc, OpsM.okLab, OpsM.okPut, OpsM.okFen, OpsM.emp, Bool.and_eq_true, decide_eq_true_eq] at h
    exact Or.inl h.2.2.1
  rw [if_neg h9] at h
  by_cases h10 : x.op = 10
  · rw [if_pos h10] at h
    simp only [OpsM.okNum, OpsM.okLoc, OpsM.okLab, OpsM.okPut, OpsM.okFen, OpsM.emp, Bool.and_eq_true, decide_eq_true_eq] at h
    exact Or.inl h.2.2.1
  rw [if_neg h10] at h
  by_cases h11 : x.op = 11
  · rw [if_pos h11] at h
    simp only [OpsM.okNum, OpsM.okLoc, OpsM.okLab, OpsM.okPut, OpsM.okFen, OpsM.emp, Bool.and_eq_true, decide_eq_true_eq] at h
    exact Or.inl h.2.2.1
  rw [if_neg h11] at h
  cases h
theorem name_len {l : L} (h : WordM.nameB l = true) : l.length ≤ 8 := by
  unfold WordM.nameB at h
  simp only [Bool.and_eq_true] at h
  exact ((WordM.speltB_iff l).1 h.1.1).2.1
theorem lineT_zero {ts : List (List OpsM.Ln)} (h : (lineT ts).2.2 = 0) : ∀ j, j < ts.length → thC (ts.getD j []) = none := by
  intro j hj
  cases e : firstAt (thG ts) ts.length with
  | none =>
    have := firstAt_none.1 e j hj
    unfold thG at this
    cases e2 : thC (ts.getD j []) with
    | none => rfl
    | some k => rw [e2] at this; exact absurd this (by simp)
  | some i =>
    obtain ⟨hi, hne, hall⟩ := firstAt_some e
    have hall' : ∀ j, j < i → thC (ts.getD j []) = none := by
      intro j hj
      have := hall j hj
      unfold thG at this
      cases e2 : thC (ts.getD j []) with
      | none => rfl
      | some k => rw [e2] at this; exact absurd this (by simp)
    cases e2 : thC (ts.getD i []) with
    | none => unfold thG at hne; rw [e2] at hne; exact absurd rfl hne
    | some k =>
      obtain ⟨hk, hn2, hal⟩ := firstAt_some e2
      rw [lineT_hit hi hall' hk hal hn2] at h
      exact absurd h hn2
theorem line_right {ls : List OpsM.Ln} (h : thC ls = none) {x : OpsM.Ln} (hx : x ∈ ls) : OpsM.rightL x = true := by
  obtain ⟨j, hj, rfl⟩ := List.mem_iff_getElem.1 hx
  have := firstAt_none.1 h j hj
  rw [lnC_take ls j hj] at this
  unfold lineC at this
  by_cases c : OpsM.rightL ls[j] = false
  · rw [if_pos c] at this; cases this
  · simpa using c
theorem tnames_mem : ∀ (ts : List (List OpsM.Ln)) (s : L), s ∈ tnames ts → ∃ ls, ls ∈ ts ∧ ∃ x, x ∈ ls ∧ x.loc = s ∧ s ≠ []
  | [], s, h => by simp [tnames] at h
  | ls :: r, s, h => by
    rcases List.mem_append.1 h with h | h
    · obtain ⟨h1, h2⟩ := List.mem_filter.1 h
      obtain ⟨x, hx, rfl⟩ := List.mem_map.1 h1
      exact ⟨ls, by simp, x, hx, rfl, by simpa using h2⟩
    · obtain ⟨l2, h1, h2⟩ := tnames_mem r s h
      exact ⟨l2, by simp [h1], h2⟩
/-- A right program's locations have right names. -/
theorem locs_names {F : Fl} (h : VM.right F = true) {s : L} (hs : s ∈ locs F) : WordM.nameB s = true := by
  obtain ⟨h1, h2, h3, _⟩ := right_zero h
  have hn := names_ok h1 h3
  rcases List.mem_append.1 ((locs_mem' hn s).1 hs) with k | k
  · obtain ⟨c, hc, rfl⟩ := List.mem_map.1 k
    obtain ⟨j, hj, rfl⟩ := List.mem_iff_getElem.1 hc
    exact cell_name hj (cellsC_zero (frameC_zero h1).2 j hj)
  · rcases List.mem_append.1 k with k | k
    · obtain ⟨ls, hl, x, hx, rfl, hne⟩ := tnames_mem _ _ k
      obtain ⟨j, hj, rfl⟩ := List.mem_iff_getElem.1 hl
      have := lineT_zero h2 j hj
      rw [getD_at _ _ _ hj] at this
      rcases right_loc (line_right this hx) with e | e
      · exact absurd e hne
      · exact e
    · obtain ⟨a, ha, rfl⟩ := List.mem_map.1 k
      obtain ⟨hm, ht⟩ := List.mem_filter.1 ha
      obtain ⟨j, hj, rfl⟩ := List.mem_iff_getElem.1 hm
      have hq := atom_asked hj (atomT_zero h3 j hj)
      have ht' : (F.cond[j]).t = -1 := by simpa using ht
      unfold AtomM.askedA AtomM.asked at hq
      rw [if_pos ht'] at hq
      exact hq
theorem locs_four {F : Fl} (h : VM.right F = true) : (locs F).length ≤ 4 := by
  have := (right_zero h).2.2.2
  unfold locC at this
  by_cases c : 4 < (locs F).length
  · rw [if_pos c] at this; cases this
  · omega
theorem mem_snoc (s x : L) (l : List L) : decide (s ∈ l ++ [x]) = (decide (s ∈ l) || (x == s)) := by
  rw [beq_dec, ← Bool.decide_or]
  exact decide_eq_decide.2 (by simp [eq_comm])
/-- One name more: the test on what was, and on this one. -/
theorem mem_step {s x : L} {l l' : List L} (e : l' = l ++ [x]) {b : Bool} (hb : decide (s ∈ l) = b) : decide (s ∈ l') = (b || (x == s)) := by rw [e, mem_snoc, hb]
end Go.Proofs.Ytaelfjphgdlbcaa
namespace Go.Proofs.Ytaelfjphgdlbcaa.VM
open WordM (L)
open OpsM (Ln)
set_option linter.unusedVariables false

theorem lcnt_app (a b : List Ln) (s : L) : lcnt (a ++ b) s = lcnt a s + lcnt b s := by
  unfold lcnt; rw [List.filter_append, List.length_append]
theorem cI_app (a b : List Ln) : cI (a ++ b) = cI a + cI b := by
  unfold cI; rw [List.filter_append, List.length_append]
theorem cM_app (a b : List Ln) : cM (a ++ b) = cM a + cM b := by
  unfold cM; rw [List.filter_append, List.length_append]
theorem lcnt_split (ls : List Ln) (k : Nat) (s : L) : lcnt ls s = lcnt (ls.take k) s + lcnt (ls.drop k) s := by
  rw [← lcnt_app, List.take_append_drop]
theorem lineC_zero {ls : List Ln} {k : Nat} {x : Ln} (h : lineC ls k x = 0) : OpsM.rightL x = true ∧ ¬ (x.op = 11 ∧ 0 < lcnt (ls.take k) x.label) ∧ ¬ (x.op = 6 ∧ fenB ls k = true) ∧
    ¬ (jmpB x = true ∧ lcnt (ls.drop (k + 1)) x.label = 0) ∧ ¬ ((insB x = true ∧ 8 ≤ cI (ls.take k)) ∨ (x.op = 11 ∧ 8 ≤ cM (ls.take k))) := by
  unfold lineC at h
  by_cases h1 : OpsM.rightL x = false
  · rw [if_pos h1] at h; cases h
  rw [if_neg h1] at h
  by_cases h2 : x.op = 11 ∧ 0 < lcnt (ls.take k) x.label
  · rw [if_pos h2] at h; cases h
  rw [if_neg h2] at h
  by_cases h3 : x.op = 6 ∧ fenB ls k = true
  · rw [if_pos h3] at h; cases h
  rw [if_neg h3] at h
  by_cases h4 : jmpB x = true ∧ lcnt (ls.drop (k + 1)) x.label = 0
  · rw [if_pos h4] at h; cases h
  rw [if_neg h4] at h
  by_cases h5 : (insB x = true ∧ 8 ≤ cI (ls.take k)) ∨ (x.op = 11 ∧ 8 ≤ cM (ls.take k))
  · rw [if_pos h5] at h; cases h
  exact ⟨by simpa using h1, h2, h3, h4, h5⟩
/-- All lines of a thread are right. -/
def ThOk (ls : List Ln) : Prop := ∀ j (h : j < ls.length), lineC ls j ls[j] = 0
theorem thok_of {ls : List Ln} (h : thC ls = none) : ThOk ls := fun j hj => by rw [← lnC_take ls j hj]; exact firstAt_none.1 h j hj
theorem thok_th {ls : List Ln} (h : ThOk ls) : thC ls = none := thC_none (fun j hj => by rw [lnC_take ls j hj]; exact h j hj)
theorem lcnt_one {ls : List Ln} (h : ThOk ls) (s : L) : ∀ k, k ≤ ls.length → lcnt (ls.take k) s ≤ 1
  | 0, _ => by simp [lcnt]
  | k + 1, hk => by
    rw [lcnt_take ls k hk]
    have ih := lcnt_one h s k (by omega)
    by_cases c : ls[k].op = 11 ∧ ls[k].label = s
    · rw [if_pos c]
      have h2 := (lineC_zero (h k hk)).2.1
      by_cases z : 0 < lcnt (ls.take k) s
      · exact absurd ⟨c.1, by rw [c.2]; exact z⟩ h2
      · omega
    · rw [if_neg c]; exact ih
theorem lcnt_pos {ls : List Ln} {j k : Nat} {s : L} (hj : j < ls.length) (hk : j < k) (h1 : ls[j].op = 11) (h2 : ls[j].label = s) : 0 < lcnt (ls.take k) s := by
  unfold lcnt
  exact List.length_pos_of_mem (List.mem_filter.2 ⟨List.mem_take_iff_getElem.2 ⟨j, by omega, rfl⟩, by simp [h1, h2]⟩)
theorem label_once {ls : List Ln} (h : ThOk ls) {i : Nat} (hi : i < ls.length) (h1 : ls[i].op = 11) : lcnt ls ls[i].label = 1 := by
  have a := lcnt_one h ls[i].label ls.length (Nat.le_refl _)
  have b := lcnt_pos (k := ls.length) hi hi h1 rfl
  rw [List.take_length] at a b
  omega
theorem jump_once {ls : List Ln} (h : ThOk ls) {i : Nat} (hi : i < ls.length) (h1 : jmpB ls[i] = true) :
    lcnt ls ls[i].label = 1 ∧ ∀ j (hj : j < ls.length), ls[j].op = 11 → ls[j].label = ls[i].label → i < j := by
  have h4 := (lineC_zero (h i hi)).2.2.2.1
  have a := lcnt_one h ls[i].label ls.length (Nat.le_refl _)
  rw [List.take_length] at a
  have b := lcnt_split ls (i + 1) ls[i].label
  have c : lcnt (ls.drop (i + 1)) ls[i].label ≠ 0 := fun e => h4 ⟨h1, e⟩
  refine ⟨by omega, fun j hj e1 e2 => ?_⟩
  by_cases hji : i < j
  · exact hji
  · have := lcnt_pos (k := i + 1) hj (by omega) e1 e2
    omega
theorem fenB_succ (ls : List Ln) (k : Nat) : fenB ls (k + 1) = match ls[k]? with | some l => l.op == 6 | none => false := rfl
theorem fence_apart {ls : List Ln} (h : ThOk ls) {i : Nat} (hi : i + 1 < ls.length) (h1 : ls[i + 1].op = 6) : ¬ ls[i].op = 6 := by
  intro e
  refine (lineC_zero (h (i + 1) hi)).2.2.1 ⟨h1, ?_⟩
  rw [fenB_succ, List.getElem?_eq_getElem (show i < ls.length by omega)]
  simp [e]
theorem cI_eight {ls : List Ln} (h : ThOk ls) : ∀ k, k ≤ ls.length → cI (ls.take k) ≤ 8
  | 0, _ => by simp [cI]
  | k + 1, hk => by
    rw [cI_take ls k hk]
    have ih := cI_eight h k (by omega)
    cases c : insB ls[k]
    · simpa using ih
    · have h5 := (lineC_zero (h k hk)).2.2.2.2
      have : ¬ 8 ≤ cI (ls.take k) := fun e => h5 (Or.inl ⟨c, e⟩)
      simp; omega
theorem cM_eight {ls : List Ln} (h : ThOk ls) : ∀ k, k ≤ ls.length → cM (ls.take k) ≤ 8
  | 0, _ => by simp [cM]
  | k + 1, hk => by
    rw [cM_take ls k hk]
    have ih := cM_eight h k (by omega)
    cases c : labB ls[k]
    · simpa using ih
    · have h5 := (lineC_zero (h k hk)).2.2.2.2
      have : ¬ 8 ≤ cM (ls.take k) := fun e => h5 (Or.inr ⟨by simpa [labB] using c, e⟩)
      simp; omega
theorem right_ths {F : Fl} (h : VM.right F = true) {t : Nat} (ht : t < F.ths.length) : ThOk F.ths[t] := by
  have := lineT_zero (right_zero h).2.1 t ht
  rw [getD_at _ _ _ ht] at this
  exact thok_of this
theorem right_three {F : Fl} (h : VM.right F = true) : 1 ≤ F.ths.length ∧ F.ths.length ≤ 3 := by
  have h1 := (frameC_zero (right_zero h).1).2
  unfold cellsC at h1
  cases e : firstAt (cellC F.init) F.init.length with
  | some k =>
    rw [e] at h1
    exact absurd h1 (firstAt_some e).2.1
  | none =>
    rw [e] at h1
    by_cases c : F.ths.length < 1 ∨ 3 < F.ths.length
    · simp only [if_pos c] at h1; cases h1
    · omega

/-! A thread of a program in another's place. -/
def setT (F : Fl) (t : Nat) (ls : List Ln) : Fl := ⟨F.name, F.init, F.ths.set t ls, F.cond, F.all⟩
theorem setT_frame (F : Fl) (t : Nat) (ls : List Ln) : frameC (setT F t ls) = frameC F := by
  have : cellsC (setT F t ls) = cellsC F := by unfold cellsC setT; simp only [List.length_set]
  unfold frameC
  rw [this]; rfl
theorem setT_atom (F : Fl) (t : Nat) (ls : List Ln) : atomT (setT F t ls).ths.length (setT F t ls).cond = atomT F.ths.length F.cond := by
  unfold setT; simp only [List.length_set]
theorem setT_at (F : Fl) {t : Nat} (ls : List Ln) (ht : t < F.ths.length) : (setT F t ls).ths.getD t [] = ls := by
  unfold setT
  rw [List.getD_eq_getElem?_getD, List.getElem?_set_self ht]; rfl
theorem setT_ne (F : Fl) {t j : Nat} (ls : List Ln) (ht : j ≠ t) : (setT F t ls).ths.getD j [] = F.ths.getD j [] := by
  unfold setT
  rw [List.getD_eq_getElem?_getD, List.getElem?_set_ne (fun e => ht e.symm), List.getD_eq_getElem?_getD]
theorem setT_len (F : Fl) (t : Nat) (ls : List Ln) : (setT F t ls).ths.length = F.ths.length := by unfold setT; simp

/-- Where a line of a thread is told, the program's frame is right, and the thread's elder ones are. -/
theorem chk_line {F : Fl} {a b c : Int} (h : chk F = (a, b, c)) (hc : c ≠ 0) (h0 : 0 ≤ a) (hn : a < F.ths.length) :
    frameC F = 0 ∧ ∃ t i : Nat, a = t ∧ b = i ∧ t < F.ths.length ∧ (∀ j, j < t → thC (F.ths.getD j []) = none) ∧ thC (F.ths.getD t []) = some i ∧ c = lnC (F.ths.getD t []) i := by
  unfold chk at h
  by_cases h1 : frameC F ≠ 0
  · rw [if_pos h1] at h
    injection h with e1 e2; omega
  rw [if_neg h1] at h
  refine ⟨by simpa using h1, ?_⟩
  by_cases h2 : (lineT F.ths).2.2 ≠ 0
  · rw [if_pos h2] at h
    unfold lineT lineF at h h2
    cases e : firstAt (thG F.ths) F.ths.length with
    | none => rw [e] at h2; exact absurd rfl h2
    | some t =>
      rw [e] at h h2
      obtain ⟨ht, hne, hall⟩ := firstAt_some e
      cases e2 : thC (F.ths.getD t []) with
      | none => simp only [e2] at h2; exact absurd rfl h2
      | some i =>
        simp only [e2] at h
        injection h with e3 e4
        injection e4 with e4 e5
        refine ⟨t, i, e3.symm, e4.symm, ht, fun j hj => ?_, e2, e5.symm⟩
        have := hall j hj
        unfold thG at this
        cases e6 : thC (F.ths.getD j []) with
        | none => rfl
        | some k => rw [e6] at this; exact absurd this (by simp)
  rw [if_neg h2] at h
  by_cases h3 : (atomT F.ths.length F.cond).2.2 ≠ 0
  · rw [if_pos h3] at h
    unfold atomT at h h3
    cases e : firstAt (atC F.ths.length F.cond) F.cond.length with
    | none => rw [e] at h3; exact absurd rfl h3
    | some k =>
      rw [e] at h
      injection h with e3 e4; omega
  rw [if_neg h3] at h
  by_cases h4 : locC F ≠ 0
  · rw [if_pos h4] at h
    injection h with e1 e2; omega
  · rw [if_neg h4] at h
    injection h with e1 e2
    injection e2 with e2 e3
    exact absurd e3.symm hc
/-- Behind right threads no elder one is told. -/
theorem chk_after {F : Fl} {t : Nat} (hf : frameC F = 0) (ht : t < F.ths.length) (hall : ∀ j, j ≤ t → thC (F.ths.getD j []) = none) : (chk F).2.2 = 0 ∨ (chk F).1 = -1 ∨ (t : Int) < (chk F).1 := by
  unfold chk
  rw [if_neg (by simpa using hf)]
  by_cases h2 : (lineT F.ths).2.2 ≠ 0
  · rw [if_pos h2]
    right; right
    unfold lineT lineF at h2 ⊢
    cases e : firstAt (thG F.ths) F.ths.length with
    | none => rw [e] at h2; exact absurd rfl h2
    | some i =>
      rw [e] at h2
      obtain ⟨hi, hne, _⟩ := firstAt_some e
      have hti : t < i := by
        by_cases c : i ≤ t
        · unfold thG at hne; rw [hall i c] at hne; exact absurd rfl hne
        · omega
      cases e2 : thC (F.ths.getD i []) with
      | none => simp only [e2] at h2; exact absurd rfl h2
      | some k => simp only [e2]; omega
  rw [if_neg h2]
  by_cases h3 : (atomT F.ths.length F.cond).2.2 ≠ 0
  · rw [if_pos h3]
    right; right
    unfold atomT at h3 ⊢
    cases e : firstAt (atC F.ths.length F.cond) F.cond.length with
    | none => rw [e] at h3; exact absurd rfl h3
    | some k => simp only; omega
  rw [if_neg h3]
  by_cases h4 : locC F ≠ 0
  · rw [if_pos h4]; exact Or.inr (Or.inl rfl)
  · rw [if_neg h4]; exact Or.inl rfl
theorem fenB_app {ls more : List Ln} : ∀ {k : Nat}, k ≤ ls.length → fenB (ls ++ more) k = fenB ls k
  | 0, _ => rfl
  | k + 1, h => by rw [fenB_succ, fenB_succ, List.getElem?_append_left (by omega)]
theorem lineC_app {ls more : List Ln} {k : Nat} {x : Ln} (hk : k < ls.length) (h : lineC ls k x ≠ 22) : lineC (ls ++ more) k x = lineC ls k x := by
  unfold lineC at h ⊢
  rw [List.take_append_of_le_length (by omega), List.drop_append_of_le_length (by omega), fenB_app (by omega), lcnt_app]
  by_cases h1 : OpsM.rightL x = false
  · rw [if_pos h1, if_pos h1]
  rw [if_neg h1, if_neg h1]
  rw [if_neg h1] at h
  by_cases h2 : x.op = 11 ∧ 0 < lcnt (ls.take k) x.label
  · rw [if_pos h2, if_pos h2]
  rw [if_neg h2, if_neg h2]
  rw [if_neg h2] at h
  by_cases h3 : x.op = 6 ∧ fenB ls k = true
  · rw [if_pos h3, if_pos h3]
  rw [if_neg h3, if_neg h3]
  rw [if_neg h3] at h
  by_cases h4 : jmpB x = true ∧ lcnt (ls.drop (k + 1)) x.label = 0
  · rw [if_pos h4] at h; exact absurd rfl h
  rw [if_neg h4, if_neg (fun c => h4 ⟨c.1, by have := c.2; omega⟩)]
theorem lnC_app {ls more : List Ln} {k : Nat} (hk : k < ls.length) (h : lnC ls k ≠ 22) : lnC (ls ++ more) k = lnC ls k := by
  rw [lnC_take ls k hk] at h ⊢
  rw [lnC_take (ls ++ more) k (by rw [List.length_append]; omega), List.getElem_append_left hk]
  exact lineC_app hk h
/-- A wrong line stays with lines behind, if it does not jump; where it jumps, nothing ahead of it is told. -/
theorem first_more {F : Fl} {t i : Nat} (more : List Ln) (hf : frameC F = 0) (ht : t < F.ths.length) (hall : ∀ j, j < t → thC (F.ths.getD j []) = none) (h : thC (F.ths.getD t []) = some i) :
    (lnC (F.ths.getD t []) i ≠ 22 → chk (setT F t (F.ths.getD t [] ++ more)) = ((t : Int), (i : Int), lnC (F.ths.getD t []) i)) ∧
    ((chk (setT F t (F.ths.getD t [] ++ more))).2.2 = 0 ∨ (chk (setT F t (F.ths.getD t [] ++ more))).1 = -1 ∨ (t : Int) < (chk (setT F t (F.ths.getD t [] ++ more))).1 ∨
      ((chk (setT F t (F.ths.getD t [] ++ more))).1 = t ∧ (i : Int) ≤ (chk (setT F t (F.ths.getD t [] ++ more))).2.1)) := by
  generalize hls : F.ths.getD t [] = ls at *
  obtain ⟨hi, hne, hal⟩ := firstAt_some h
  have hfr := setT_frame F t (ls ++ more)
  rw [hf] at hfr
  have hat := setT_at F (ls ++ more) ht
  have hlen := setT_len F t (ls ++ more)
  have hall' : ∀ j, j < t → thC ((setT F t (ls ++ more)).ths.getD j []) = none := fun j hj => by rw [setT_ne F _ (by omega)]; exact hall j hj
  have hz : ∀ j, j < i → lnC (ls ++ more) j = 0 := fun j hj => by
    have := hal j hj
    rw [lnC_app (by omega) (by rw [this]; simp)]; exact this
  generalize hG : setT F t (ls ++ more) = G at *
  have hlapp : (ls ++ more).length = ls.length + more.length := List.length_append
  constructor
  · intro hc
    have e : lnC (ls ++ more) i = lnC ls i := lnC_app hi hc
    have hl := lineT_hit (ts := G.ths) (i := t) (k := i) (by omega) hall' (by rw [hat]; omega) (by rw [hat]; exact hz) (by rw [hat, e]; exact hne)
    rw [hat, e] at hl
    unfold chk
    rw [if_neg (by simpa using hfr), hl]
    exact if_pos hne
  · cases e : thC (ls ++ more) with
    | some m =>
      obtain ⟨hm, hne2, hal2⟩ := firstAt_some e
      have hl := lineT_hit (ts := G.ths) (i := t) (k := m) (by omega) hall' (by rw [hat]; exact hm) (by rw [hat]; exact hal2) (by rw [hat]; exact hne2)
      rw [hat] at hl
      have hmi : i ≤ m := by
        by_cases c : i ≤ m
        · exact c
        · exact absurd (hz m (by omega)) hne2
      right; right; right
      unfold chk
      rw [if_neg (by simpa using hfr), hl, if_pos hne2]
      exact ⟨rfl, by simp only; omega⟩
    | none =>
      rcases chk_after (t := t) hfr (by omega) (fun j hj => by
        by_cases c : j = t
        · subst c; rw [hat]; exact e
        · exact hall' j (by omega)) with h1 | h1 | h1
      · exact Or.inl h1
      · exact Or.inr (Or.inl h1)
      · exact Or.inr (Or.inr (Or.inl h1))

/-! A fence more. -/
def fen : Ln := ⟨6, [], [], [], 0⟩
theorem fen_line (ls : List Ln) (k : Nat) : lineC ls k fen = if fenB ls k = true then 23 else 0 := by
  have h1 : ¬ OpsM.rightL fen = false := show ¬ OpsM.rightL ⟨6, [], [], [], 0⟩ = false by decide
  have h2 : ¬ fen.op = 11 := by decide
  have h4 : ¬ jmpB fen = true := by decide
  have h5 : ¬ insB fen = true := by decide
  have h6 : fen.op = 6 := rfl
  unfold lineC
  rw [if_neg h1, if_neg (fun c => h2 c.1)]
  by_cases c : fenB ls k = true
  · rw [if_pos ⟨h6, c⟩, if_pos c]
  · rw [if_neg (fun e => c e.2), if_neg c, if_neg (fun e => h4 e.1), if_neg (fun e => e.elim (fun a => h5 a.1) (fun a => h2 a.1))]
theorem lcnt_fen (b : List Ln) (s : L) : lcnt (fen :: b) s = lcnt b s := by
  unfold lcnt; rw [List.filter_cons_of_neg (by simp [fen])]
theorem cI_fen (b : List Ln) : cI (fen :: b) = cI b := by
  unfold cI; rw [List.filter_cons_of_neg (by decide)]
theorem cM_fen (b : List Ln) : cM (fen :: b) = cM b := by
  unfold cM; rw [List.filter_cons_of_neg (by decide)]
theorem fen_ahead {a b : List Ln} {j : Nat} (x : Ln) (hj : j < a.length) : lineC (a ++ fen :: b) j x = lineC (a ++ b) j x := by
  unfold lineC
  rw [List.take_append_of_le_length (by omega), List.take_append_of_le_length (by omega), List.drop_append_of_le_length (by omega), List.drop_append_of_le_length (by omega), fenB_app (by omega), fenB_app (by omega), lcnt_app, lcnt_app, lcnt_fen]
theorem fen_behind {a b : List Ln} {m : Nat} (x : Ln) (h : fenB (a ++ fen :: b) (a.length + 1 + m) = fenB (a ++ b) (a.length + m) ∨ ¬ x.op = 6) : lineC (a ++ fen :: b) (a.length + 1 + m) x = lineC (a ++ b) (a.length + m) x := by
  have e1 : (a ++ fen :: b).take (a.length + 1 + m) = a ++ fen :: b.take m := by
    rw [show a.length + 1 + m = a.length + (m + 1) by omega, List.take_length_add_append, List.take_succ_cons]
  have e2 : (a ++ b).take (a.length + m) = a ++ b.take m := List.take_length_add_append ..
  have e3 : (a ++ fen :: b).drop (a.length + 1 + m + 1) = b.drop (m + 1) := by
    rw [show a.length + 1 + m + 1 = a.length + (m + 2) by omega, List.drop_length_add_append]; rfl
  have e4 : (a ++ b).drop (a.length + m + 1) = b.drop (m + 1) := by
    rw [show a.length + m + 1 = a.length + (m + 1) by omega, List.drop_length_add_append]
  unfold lineC
  rw [e1, e2, e3, e4, lcnt_app, lcnt_fen, cI_app, cI_fen, cM_app, cM_fen, ← lcnt_app, ← cI_app, ← cM_app]
  rcases h with h | h
  · rw [h]
  · have h6 : ∀ q : Prop, ¬ (x.op = 6 ∧ q) := fun q c => h c.1
    simp only [if_neg (h6 _)]
theorem fenB_mid (a b : List Ln) : fenB (a ++ fen :: b) (a.length + 1) = true := by
  rw [fenB_succ, List.getElem?_append_right (Nat.le_refl _), Nat.sub_self]; rfl
theorem fenB_far (a b : List Ln) (m : Nat) : fenB (a ++ fen :: b) (a.length + 1 + (m + 1)) = fenB (a ++ b) (a.length + (m + 1)) := by
  show fenB (a ++ fen :: b) (a.length + 1 + m + 1) = fenB (a ++ b) (a.length + m + 1)
  rw [fenB_succ, fenB_succ, List.getElem?_append_right (by omega), List.getElem?_append_right (by omega), show a.length + 1 + m - a.length = m + 1 by omega, show a.length + m - a.length = m by omega, List.getElem?_cons_succ]
/-- A fence where none stands right ahead, or right behind: all lines stay right. -/
theorem fen_right {a b : List Ln} (h : ThOk (a ++ b)) (h1 : ¬ fenB (a ++ b) a.length = true) (h2 : ∀ (q : 0 < b.length), ¬ b[0].op = 6) : ThOk (a ++ fen :: b) := by
  intro j hj
  have hl : (a ++ fen :: b).length = a.length + (b.length + 1) := by rw [List.length_append, List.length_cons]
  by_cases c1 : j < a.length
  · rw [List.getElem_append_left c1, fen_ahead _ c1]
    have := h j (by rw [List.length_append]; omega)
    rw [List.getElem_append_left c1] at this
    exact this
  by_cases c2 : j = a.length
  · subst c2
    rw [List.getElem_append_right (Nat.le_refl _)]
    simp only [Nat.sub_self, List.getElem_cons_zero]
    rw [fen_line, fenB_app (Nat.le_refl _), ← fenB_app (more := b) (Nat.le_refl _), if_neg h1]
  obtain ⟨m, rfl⟩ : ∃ m, j = a.length + 1 + m := ⟨j - a.length - 1, by omega⟩
  have hm : m < b.length := by omega
  have e1 : (a ++ fen :: b)[a.length + 1 + m] = b[m] := by
    rw [List.getElem_append_right (by omega)]
    simp only [show a.length + 1 + m - a.length = m + 1 by omega, List.getElem_cons_succ]
  have := h (a.length + m) (by rw [List.length_append]; omega)
  have e2 : (a ++ b)[a.length + m]'(by rw [List.length_append]; omega) = b[m] := by
    rw [List.getElem_append_right (by omega)]
    simp only [show a.length + m - a.length = m by omega]
  rw [e2] at this
  rw [e1, fen_behind]
  · exact this
  · cases m with
    | zero => exact Or.inr (h2 (by omega))
    | succ m => exact Or.inl (fenB_far a b m)
/-- A fence beside one: that is told. -/
theorem fen_wrong {a b : List Ln} (h : ThOk (a ++ b)) (hs : fenB (a ++ b) a.length = true ∨ ∃ (q : 0 < b.length), b[0].op = 6) :
    ∃ m, thC (a ++ fen :: b) = some m ∧ lnC (a ++ fen :: b) m = 23 := by
  have hl : (a ++ fen :: b).length = a.length + (b.length + 1) := by rw [List.length_append, List.length_cons]
  have z1 : ∀ j, j < a.length → lnC (a ++ fen :: b) j = 0 := by
    intro j c1
    rw [lnC_take _ j (by omega), List.getElem_append_left c1, fen_ahead _ c1]
    have := h j (by rw [List.length_append]; omega)
    rw [List.getElem_append_left c1] at this
    exact this
  have z2 : lnC (a ++ fen :: b) a.length = if fenB (a ++ b) a.length = true then 23 else 0 := by
    rw [lnC_take _ a.length (by omega), List.getElem_append_right (Nat.le_refl _)]
    simp only [Nat.sub_self, List.getElem_cons_zero]
    rw [fen_line, fenB_app (Nat.le_refl _), ← fenB_app (more := b) (Nat.le_refl _)]
  by_cases c : fenB (a ++ b) a.length = true
  · rw [if_pos c] at z2
    exact ⟨a.length, firstAt_hit z1 (by rw [z2]; simp) (by omega), z2⟩
  rw [if_neg c] at z2
  obtain ⟨q, h6⟩ := hs.resolve_left c
  have z3 : lnC (a ++ fen :: b) (a.length + 1) = 23 := by
    have hh := h a.length (by rw [List.length_append]; omega)
    rw [List.getElem_append_right (Nat.le_refl _)] at hh
    simp only [Nat.sub_self] at hh
    have hz := (lineC_zero hh).1
    rw [lnC_take _ (a.length + 1) (by omega), List.getElem_append_right (by omega)]
    simp only [show a.length + 1 - a.length = 0 + 1 by omega, List.getElem_cons_succ]
    unfold lineC
    rw [if_neg (by simp [hz]), if_neg (fun e => by have := e.1; omega), if_pos ⟨h6, fenB_mid a b⟩]
  refine ⟨a.length + 1, firstAt_hit (fun j hj => ?_) (by rw [z3]; simp) (by omega), z3⟩
  by_cases e : j = a.length
  · subst e; exact z2
  · exact z1 j (by omega)
theorem tnames_set : ∀ (ts : List (List Ln)) (t : Nat) (ls : List Ln), lnames ls = lnames (ts.getD t []) → tnames (ts.set t ls) = tnames ts
  | [], t, ls, h => rfl
  | x :: r, 0, ls, h => by
    show lnames ls ++ tnames r = lnames x ++ tnames r
    rw [h]; rfl
  | x :: r, t + 1, ls, h => by
    show lnames x ++ tnames (r.set t ls) = lnames x ++ tnames r
    rw [tnames_set r t ls h]
theorem lnames_fen (a b : List Ln) : lnames (a ++ fen :: b) = lnames (a ++ b) := by
  unfold lnames
  rw [List.map_append, List.filter_append, List.map_cons, List.filter_cons_of_neg (by decide), List.map_append, List.filter_append]
theorem fences {F : Fl} (h : VM.right F = true) {t k : Nat} (ht : t < F.ths.length) (hk : k ≤ F.ths[t].length) :
    ((fenB F.ths[t] k = true ∨ ∃ (q : k < F.ths[t].length), F.ths[t][k].op = 6) → VM.right (setT F t (F.ths[t].take k ++ fen :: F.ths[t].drop k)) = false ∧ (chk (setT F t (F.ths[t].take k ++ fen :: F.ths[t].drop k))).2.2 = 23) ∧
    ((¬ fenB F.ths[t] k = true ∧ ∀ (q : k < F.ths[t].length), ¬ F.ths[t][k].op = 6) → VM.right (setT F t (F.ths[t].take k ++ fen :: F.ths[t].drop k)) = true ∧ locs (setT F t (F.ths[t].take k ++ fen :: F.ths[t].drop k)) = locs F) := by
  obtain ⟨hf, hlt, hat, hlc⟩ := right_zero h
  have hok := right_ths h ht
  have hgd : F.ths.getD t [] = F.ths[t] := getD_at _ _ _ ht
  generalize F.ths[t] = ls at *
  have htk : (ls.take k).length = k := by rw [List.length_take]; omega
  have hsp : ls.take k ++ ls.drop k = ls := List.take_append_drop k ls
  have hd0 : ∀ (q : k < ls.length) (q2 : 0 < (ls.drop k).length), (ls.drop k)[0] = ls[k] := fun q q2 => by rw [List.getElem_drop]; simp only [Nat.add_zero]
  have hdl : (ls.drop k).length = ls.length - k := List.length_drop
  generalize ha : ls.take k = a at *
  generalize hb : ls.drop k = b at *
  have hf' := setT_frame F t (a ++ fen :: b)
  rw [hf] at hf'
  have hat' := setT_atom F t (a ++ fen :: b)
  have hg' := setT_at F (a ++ fen :: b) ht
  have hlen := setT_len F t (a ++ fen :: b)
  have hall : ∀ j, j < F.ths.length → j ≠ t → thC ((setT F t (a ++ fen :: b)).ths.getD j []) = none := fun j hj hne => by rw [setT_ne F _ hne]; exact lineT_zero hlt j hj
  constructor
  · intro hs
    obtain ⟨m, h1, h2⟩ := fen_wrong (a := a) (b := b) (by rw [hsp]; exact hok) (by
      rcases hs with hs | ⟨q, hs⟩
      · left; rw [hsp, htk]; exact hs
      · right; exact ⟨by omega, by rw [hd0 q (by omega)]; exact hs⟩)
    obtain ⟨hm, hne, hal⟩ := firstAt_some h1
    have hl := lineT_hit (ts := (setT F t (a ++ fen :: b)).ths) (i := t) (k := m) (by omega) (fun j hj => hall j (by omega) (by omega)) (by rw [hg']; exact hm) (by rw [hg']; exact hal) (by rw [hg']; exact hne)
    rw [hg', h2] at hl
    have hc : chk (setT F t (a ++ fen :: b)) = ((t : Int), (m : Int), 23) := by
      unfold chk
      rw [if_neg (by simpa using hf'), hl]
      exact if_pos (by simp)
    refine ⟨?_, by rw [hc]⟩
    unfold VM.right
    rw [hc]; rfl
  · intro hs
    have h1 := thok_th (fen_right (a := a) (b := b) (by rw [hsp]; exact hok) (by rw [hsp, htk]; exact hs.1) (fun q => by rw [hd0 (by omega) q]; exact hs.2 (by omega)))
    have hl : lineT (setT F t (a ++ fen :: b)).ths = (0, 0, 0) := lineT_end (fun j hj => by
      by_cases e : j = t
      · subst e; rw [hg']; exact h1
      · exact hall j (by omega) e)
    have hln : locs (setT F t (a ++ fen :: b)) = locs F := by
      unfold locs names
      have : tnames (setT F t (a ++ fen :: b)).ths = tnames F.ths := tnames_set _ _ _ (by rw [hgd, lnames_fen, hsp])
      rw [this]; rfl
    refine ⟨?_, hln⟩
    unfold VM.right chk
    rw [if_neg (by simpa using hf'), hl, if_neg (by simp), hat', if_neg (by simpa using hat)]
    have : locC (setT F t (a ++ fen :: b)) = 0 := by unfold locC at hlc ⊢; rw [hln]; exact hlc
    rw [if_neg (by simpa using this)]; rfl
end Go.Proofs.Ytaelfjphgdlbcaa.VM
namespace Go.Proofs.Ytaelfjphgdlbcaa.CodM
open WordM (L)
open OpsM (Ln)
open VM (Fl)
set_option linter.unusedVariables false
set_option linter.unusedSimpArgs false

/-- The k-th of those that are kept is one of the row's, with k kept ahead of it. -/
theorem filter_at {A : Type} (p : A → Bool) : ∀ (l : List A) (k : Nat) (h : k < (l.filter p).length), ∃ (i : Nat) (hi : i < l.length), p l[i] = true ∧ ((l.take i).filter p).length = k ∧ (l.filter p)[k] = l[i]
  | [], k, h => absurd h (by simp)
  | x :: r, k, h => by
    cases c : p x with
    | false =>
      rw [List.filter_cons_of_neg (by simp [c])] at h
      obtain ⟨i, hi, h1, h2, h3⟩ := filter_at p r k h
      refine ⟨i + 1, by simpa using hi, h1, ?_, ?_⟩
      · rw [List.take_succ_cons, List.filter_cons_of_neg (by simp [c])]; exact h2
      · simp only [List.filter_cons_of_neg (show ¬ p x = true by simp [c])]; exact h3
    | true =>
      rw [List.filter_cons_of_pos c] at h
      cases k with
      | zero => exact ⟨0, by simp, c, by simp, by simp [List.filter_cons_of_pos c]⟩
      | succ k =>
        obtain ⟨i, hi, h1, h2, h3⟩ := filter_at p r k (by simpa using h)
        refine ⟨i + 1, by simpa using hi, h1, ?_, ?_⟩
        · rw [List.take_succ_cons, List.filter_cons_of_pos c, List.length_cons, h2]
        · simp only [List.filter_cons_of_pos c, List.getElem_cons_succ]; exact h3
theorem thrS_at (locs : List L) (ls : List Ln) (k : Nat) (h : k < (thrS locs ls).length) : ∃ (i : Nat) (hi : i < ls.length), hasS ls[i] = true ∧ cnt (ls.take i) = k ∧ (thrS locs ls)[k] = stp ls locs ls[i] := by
  have h' : k < (ls.filter hasS).length := by unfold thrS at h; simpa using h
  obtain ⟨i, hi, h1, h2, h3⟩ := filter_at hasS ls k h'
  refine ⟨i, hi, h1, h2, ?_⟩
  apply Option.some.inj
  rw [← List.getElem?_eq_getElem h]
  unfold thrS
  rw [List.getElem?_map, List.getElem?_eq_getElem h', h3]; rfl
theorem thrS_len' (locs : List L) (ls : List Ln) : (thrS locs ls).length = cnt ls := by unfold thrS cnt; simp
/-! How many steps a right thread has. -/
def cF (ls : List Ln) : Nat := (ls.filter (fun l => l.op == 6)).length
theorem cF_take (ls : List Ln) (k : Nat) (h : k < ls.length) : cF (ls.take (k + 1)) = cF (ls.take k) + if ls[k].op = 6 then 1 else 0 := by
  unfold cF
  rw [List.take_succ_eq_append_getElem h, List.filter_append, List.length_append]
  by_cases c : ls[k].op = 6
  · rw [List.filter_cons_of_pos (by simp [c]), if_pos c]; rfl
  · rw [List.filter_cons_of_neg (by simp [c]), if_neg c]; rfl
theorem fen_le {ls : List Ln} (h : VM.ThOk ls) : ∀ k, k ≤ ls.length → cF (ls.take k) ≤ VM.cI (ls.take k) + VM.cM (ls.take k) + (if VM.fenB ls k = true then 1 else 0)
  | 0, _ => by simp [cF]
  | k + 1, hk => by
    have ih := fen_le h k (by omega)
    rw [cF_take ls k hk, VM.cI_take ls k hk, VM.cM_take ls k hk, VM.fenB_succ, List.getElem?_eq_getElem (show k < ls.length by omega)]
    have h3 := (VM.lineC_zero (h k hk)).2.2.1
    by_cases c : ls[k].op = 6
    · have hf : VM.fenB ls k = false := by
        cases e : VM.fenB ls k
        · rfl
        · exact absurd ⟨c, e⟩ h3
      rw [hf] at ih
      simp only [if_pos c, c]
      simp at ih ⊢
      omega
    · have : VM.insB ls[k] = true ∨ VM.labB ls[k] = true := by
        unfold VM.insB VM.labB
        by_cases c2 : ls[k].op = 11
        · right; simp [c2]
        · left; simp [c, c2]
      rw [if_neg c]
      have hle : (if VM.fenB ls k = true then 1 else 0) ≤ 1 := by split <;> omega
      rcases this with e | e <;> (rw [e]; simp only [if_true]; omega)
theorem cnt_split (ls : List Ln) : ∀ k, k ≤ ls.length → cnt (ls.take k) ≤ VM.cI (ls.take k) + cF (ls.take k)
  | 0, _ => by simp [cnt]
  | k + 1, hk => by
    have ih := cnt_split ls k (by omega)
    rw [cnt_take ls k hk, cF_take ls k hk, VM.cI_take ls k hk]
    cases c : hasS ls[k]
    · simp; omega
    · by_cases e : ls[k].op = 6
      · rw [if_pos e]; simp; omega
      · have : VM.insB ls[k] = true := by
          unfold hasS at c; unfold VM.insB
          simp at c; simp [e, c]
        rw [this]; simp; omega
theorem cnt_many {ls : List Ln} (h : VM.ThOk ls) : cnt ls ≤ 33 := by
  have h1 := cnt_split ls ls.length (Nat.le_refl _)
  have h2 := fen_le h ls.length (Nat.le_refl _)
  have h3 := VM.cI_eight h ls.length (Nat.le_refl _)
  have h4 := VM.cM_eight h ls.length (Nat.le_refl _)
  rw [List.take_length] at h1 h2 h3 h4
  have hle : (if VM.fenB ls ls.length = true then 1 else 0) ≤ 1 := by split <;> omega
  omega
/-! A step of a right line. -/
theorem right_lab {x : Ln} (h : OpsM.rightL x = true) (ho : x.op = 11) : WordM.nameB x.label = true := by
  unfold OpsM.rightL OpsM.right at h
  rw [ho] at h
  simp [OpsM.okLab] at h
  exact h.1
theorem name_ne {s : L} (h : WordM.nameB s = true) : s ≠ [] := by
  intro e; subst e; revert h; decide
theorem toN_nil {ls : List Ln} (h : VM.ThOk ls) : toN ls [] = 0 := by
  unfold toN
  rw [pos0_none (fun j hj => ?_)]
  · rfl
  · unfold isLab hasS
    by_cases c : ls[j].op = 11
    · have := name_ne (right_lab ((VM.lineC_zero (h j hj)).1) c)
      simp [c, this]
    · simp [c]
theorem locN_nil {locs : List L} (h : ∀ s ∈ locs, WordM.nameB s = true) : locN locs [] = 0 := by
  unfold locN
  rw [pos0_none (fun j hj => ?_)]
  have := name_ne (h _ (List.getElem_mem hj))
  simp [this]
theorem locN_at {locs : List L} {s : L} (h : s ∈ locs) : ∃ hk : locN locs s < locs.length, locs[locN locs s] = s := by
  obtain ⟨j, hj, rfl⟩ := List.mem_iff_getElem.1 h
  obtain ⟨h1, h2, _⟩ := pos0_at (p := fun x => decide (x = locs[j])) hj (by simp)
  exact ⟨h1, of_decide_eq_true h2⟩
theorem regNo_bd (r : L) : -1 ≤ WordM.regNo r ∧ WordM.regNo r ≤ 3 := by
  unfold WordM.regNo
  repeat' split
  all_goals omega
theorem regI_nil : regI [] = 0 := by decide
theorem isLab_iff (s : L) (x : Ln) : isLab s x = true ↔ x.op = 11 ∧ x.label = s := by unfold isLab hasS; simp
theorem toN_jump {ls : List Ln} (h : VM.ThOk ls) {i : Nat} (hi : i < ls.length) (hs : hasS ls[i] = true) (hj : VM.jmpB ls[i] = true) :
    cnt (ls.take i) + 1 ≤ toN ls ls[i].label ∧ toN ls ls[i].label ≤ cnt ls := by
  obtain ⟨h1, h2⟩ := VM.jump_once h hi hj
  have hp : 0 < lcnt ls ls[i].label := by omega
  unfold lcnt at hp
  obtain ⟨y, hy⟩ := List.exists_mem_of_length_pos hp
  obtain ⟨hy1, hy2⟩ := List.mem_filter.1 hy
  obtain ⟨j, hjl, rfl⟩ := List.mem_iff_getElem.1 hy1
  have hy3 : ls[j].op = 11 ∧ ls[j].label = ls[i].label := by simpa using hy2
  have hl : isLab ls[i].label ls[j] = true := by unfold isLab hasS; simp [hy3.1, hy3.2]
  obtain ⟨q1, q2, q3⟩ := pos0_at hjl hl
  have hq := (isLab_iff _ _).1 q2
  have hlt := h2 _ q1 hq.1 hq.2
  unfold toN
  have a := cnt_take ls i hi
  rw [hs] at a
  have b := cnt_mono ls (show i + 1 ≤ pos0 (isLab ls[i].label) ls by omega)
  have c := cnt_mono ls (show pos0 (isLab ls[i].label) ls ≤ ls.length by omega)
  rw [List.take_length] at c
  simp at a
  omega
theorem stp_right {ls : List Ln} {locs : List L} (h : VM.ThOk ls) (hn : ∀ s ∈ locs, WordM.nameB s = true) (hm : ∀ x ∈ ls, x.loc ≠ [] → x.loc ∈ locs) {i : Nat} (hi : i < ls.length) (hs : hasS ls[i] = true) :
    rightS locs.length (cnt ls) (cnt (ls.take i)) (stp ls locs ls[i]) = true := by
  have hr := (VM.lineC_zero (h i hi)).1
  have hml := hm ls[i] (List.getElem_mem hi)
  have ho : ¬ ls[i].op = 11 := by unfold hasS at hs; simpa using hs
  have hj := fun (c : VM.jmpB ls[i] = true) => toN_jump h hi hs c
  have t0 := toN_nil h
  have l0 := locN_nil hn
  have hl : ls[i].loc ≠ [] → (locN locs ls[i].loc : Int) ≤ (locs.length : Int) - 1 := fun e => by
    obtain ⟨a, _⟩ := locN_at (hml e)
    omega
  have hrb := regNo_bd ls[i].reg
  have hrg : 0 ≤ regI ls[i].reg ∧ regI ls[i].reg ≤ 3 := by unfold regI; omega
  have hnn : WordM.nameB ls[i].loc = true → ls[i].loc ≠ [] := name_ne
  unfold stp rightS
  simp only
  generalize cnt (ls.take i) = k at *
  generalize ls[i] = x at *
  unfold OpsM.rightL OpsM.right at hr
  have nat0 : ∀ n : Nat, (0 : Int) ≤ (n : Int) := fun n => by omega
  by_cases e1 : x.op = 1
  · simp [e1, OpsM.okNum, OpsM.emp] at hr
    rw [e1]; simp [hReg, hLoc, hNum, hTo, zOr, hrg.1, hrg.2, hr.2.1, hr.2.2, t0, l0]
  by_cases e2 : x.op = 2
  · simp [e2, OpsM.okLoc, OpsM.emp, OpsM.nil0] at hr
    have := hl (hnn hr.2.1)
    rw [e2]; simp [hReg, hLoc, hNum, hTo, zOr, hrg.1, hrg.2, hr.2.2.1, hr.2.2.2, t0, this]
  by_cases e3 : x.op = 3
  · simp [e3, OpsM.okLoc, OpsM.emp, OpsM.nil0] at hr
    have := hl (hnn hr.2.1)
    rw [e3]; simp [hReg, hLoc, hNum, hTo, zOr, hrg.1, hrg.2, hr.2.2.1, hr.2.2.2, t0, this]
  by_cases e4 : x.op = 4
  · simp [e4, OpsM.okPut, OpsM.emp, OpsM.nil0] at hr
    have := hl (hnn hr.1)
    rw [e4]; simp [hReg, hLoc, hNum, hTo, zOr, hr.2.1, hr.2.2, t0, this, regI_nil]
  by_cases e5 : x.op = 5
  · simp [e5, OpsM.okLoc, OpsM.emp, OpsM.nil0] at hr
    have := hl (hnn hr.2.1)
    rw [e5]; simp [hReg, hLoc, hNum, hTo, zOr, hrg.1, hrg.2, hr.2.2.1, hr.2.2.2, t0, this]
  by_cases e6 : x.op = 6
  · simp [e6, OpsM.okFen, OpsM.emp, OpsM.nil0] at hr
    rw [e6]; simp [hReg, hLoc, hNum, hTo, zOr, hr.1, hr.2.1, hr.2.2.1, hr.2.2.2, t0, l0, regI_nil]
  by_cases e7 : x.op = 7
  · simp [e7, OpsM.okNum, OpsM.emp] at hr
    rw [e7]; simp [hReg, hLoc, hNum, hTo, zOr, hrg.1, hrg.2, hr.2.1, hr.2.2, t0, l0]
  have h8 : x.op = 8 ∨ x.op = 9 ∨ x.op = 10 := by
    by_cases a : x.op = 8
    · exact .inl a
    by_cases b : x.op = 9
    · exact .inr (.inl b)
    by_cases c : x.op = 10
    · exact .inr (.inr c)
    simp [e1, e2, e3, e4, e5, e6, e7, a, b, c, ho] at hr
  have hjj := hj (by unfold VM.jmpB; simp; omega)
  have hk1 : ((k : Int) + 1 ≤ (toN ls x.label : Int)) := by omega
  have hk2 : ((toN ls x.label : Int) ≤ (cnt ls : Int)) := by omega
  rcases h8 with e | e | e
  · simp [e, OpsM.okLab, OpsM.emp, OpsM.nil0] at hr
    rw [e]; simp [hReg, hLoc, hNum, hTo, zOr, hr.2.1, hr.2.2.1, hr.2.2.2, l0, regI_nil, hk1, hjj.2]
  · simp [e, OpsM.okLab, OpsM.emp, OpsM.nil0] at hr
    rw [e]; simp [hReg, hLoc, hNum, hTo, zOr, hr.2.1, hr.2.2.1, hr.2.2.2, l0, regI_nil, hk1, hjj.2]
  · simp [e, OpsM.okLab, OpsM.emp, OpsM.nil0] at hr
    rw [e]; simp [hReg, hLoc, hNum, hTo, zOr, hr.2.1, hr.2.2.1, hr.2.2.2, l0, regI_nil, hk1, hjj.2]
theorem tn_mem : ∀ (ts : List (List Ln)) (ls : List Ln), ls ∈ ts → ∀ s ∈ VM.lnames ls, s ∈ VM.tnames ts
  | [], ls, h, _, _ => by cases h
  | a :: r, ls, h, s, hs => by
    unfold VM.tnames
    rcases List.mem_cons.1 h with rfl | h
    · exact List.mem_append_left _ hs
    · exact List.mem_append_right _ (tn_mem r ls h s hs)
theorem loc_mem {F : Fl} {ls : List Ln} (hls : ls ∈ F.ths) {x : Ln} (hx : x ∈ ls) (hne : x.loc ≠ []) : x.loc ∈ VM.locs F := by
  rw [locs_mem]
  refine ⟨hne, ?_⟩
  unfold VM.names
  refine List.mem_append_right _ (List.mem_append_left _ (tn_mem _ _ hls _ ?_))
  unfold VM.lnames
  exact List.mem_filter.2 ⟨List.mem_map.2 ⟨x, hx, rfl⟩, by simp [hne]⟩
theorem cell_mem {F : Fl} {c : L × Int} (hc : c ∈ F.init) (hne : c.1 ≠ []) : c.1 ∈ VM.locs F := by
  rw [locs_mem]
  exact ⟨hne, List.mem_append_left _ (List.mem_map.2 ⟨c, hc, rfl⟩)⟩
theorem code_right {F : Fl} (h : VM.right F = true) : rightP (codP F) = true := by
  have hl : VM.locsR F = VM.locs F := by unfold VM.locsR; rw [if_pos h]
  have h4 := locs_four h
  have h3 := VM.right_three h
  unfold codP
  rw [if_pos h]
  unfold rightP
  simp only [List.length_map, Bool.and_eq_true, decide_eq_true_eq, List.all_eq_true]
  refine ⟨⟨by rw [hl]; exact h4, h3⟩, fun ss hss => ?_⟩
  obtain ⟨ls, hls, rfl⟩ := List.mem_map.1 hss
  obtain ⟨t, ht, rfl⟩ := List.mem_iff_getElem.1 hls
  have hok := VM.right_ths h ht
  have hn : ∀ s ∈ VM.locsR F, WordM.nameB s = true := fun s hs => locs_names h (by rw [← hl]; exact hs)
  have hm : ∀ x ∈ F.ths[t], x.loc ≠ [] → x.loc ∈ VM.locsR F := fun x hx hne => by rw [hl]; exact loc_mem hls hx hne
  refine rightT_all (by rw [thrS_len']; have := cnt_many hok; omega) (fun k hk => ?_)
  obtain ⟨i, hi, h1, h2, e⟩ := thrS_at (VM.locsR F) F.ths[t] k hk
  rw [e, thrS_len', ← h2]
  exact stp_right hok hn hm hi h1
end Go.Proofs.Ytaelfjphgdlbcaa.CodM
