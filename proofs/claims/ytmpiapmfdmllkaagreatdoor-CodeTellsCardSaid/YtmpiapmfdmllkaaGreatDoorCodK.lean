/-
  WHAT THE DOCUMENT's step wants of a right thread's lines, as mathematics.
-/
import Derived.Test.YtmpiapmfdmllkaaGreatDoorCodI
import Derived.Test.YtmpiapmfdmllkaaGreatDoorRStp
namespace Go.Proofs.YtmpiapmfdmllkaaGreatDoor
open WordM (L)
open OpsM (Ln)
open VM
open CodM
set_option linter.unusedVariables false
set_option linter.unusedSimpArgs false

theorem right_nolab {x : Ln} (h : OpsM.rightL x = true) (hs : hasS x = true) (hj : jmpB x = false) : x.label = [] := by
  have ho : ¬ x.op = 11 := by unfold CodM.hasS at hs; simpa using hs
  have hj' : ¬ (8 ≤ x.op ∧ x.op ≤ 10) := by unfold jmpB at hj; simpa using hj
  unfold OpsM.rightL OpsM.right at h
  by_cases e1 : x.op = 1
  · simp [e1, OpsM.okNum, OpsM.emp] at h; exact h.2.2
  by_cases e2 : x.op = 2
  · simp [e2, OpsM.okLoc, OpsM.emp] at h; exact h.2.2.1
  by_cases e3 : x.op = 3
  · simp [e3, OpsM.okLoc, OpsM.emp] at h; exact h.2.2.1
  by_cases e4 : x.op = 4
  · simp [e4, OpsM.okPut, OpsM.emp] at h; exact h.2.2
  by_cases e5 : x.op = 5
  · simp [e5, OpsM.okLoc, OpsM.emp] at h; exact h.2.2.1
  by_cases e6 : x.op = 6
  · simp [e6, OpsM.okFen, OpsM.emp] at h; exact h.2.2.1
  by_cases e7 : x.op = 7
  · simp [e7, OpsM.okNum, OpsM.emp] at h; exact h.2.2
  have e8 : ¬ x.op = 8 := fun e => hj' (by omega)
  have e9 : ¬ x.op = 9 := fun e => hj' (by omega)
  have e10 : ¬ x.op = 10 := fun e => hj' (by omega)
  simp [e1, e2, e3, e4, e5, e6, e7, e8, e9, e10, ho] at h
theorem step_ok {F : Fl} (h : VM.right F = true) {ls : List Ln} (hls : ls ∈ F.ths) {i : Nat} (hi : i < ls.length) (hs : hasS ls[i] = true) : StepOk ls (locsR F) ls[i] := by
  obtain ⟨t, ht, rfl⟩ := List.mem_iff_getElem.1 hls
  have hok := right_ths h ht
  have hr := (lineC_zero (hok i hi)).1
  refine ⟨fun hne => ?_, fun e => ?_, fun j hj h1 h2 => ?_, fun hj => ?_⟩
  · have := right_reg hr hne
    unfold regI; omega
  · rw [e]
    exact locN_nil (fun s hs => locs_names h (by rw [← show locsR F = locs F by unfold locsR; rw [if_pos h]]; exact hs))
  · obtain ⟨e1, e2⟩ := (isLab_iff _ _).1 h2
    exact toN_lab hok hj e1 e2
  · rw [right_nolab hr hs hj]
    exact toN_nil hok
/-- The steps of a thread's first lines. -/
def thrK (ls : List Ln) (locs : List L) (m : Nat) : List St := ((ls.take m).filter hasS).map (stp ls locs)
theorem thrK_step (ls : List Ln) (locs : List L) (m : Nat) (h : m < ls.length) : thrK ls locs (m + 1) = thrK ls locs m ++ (if hasS ls[m] then [stp ls locs ls[m]] else []) := by
  unfold thrK
  rw [List.take_succ_eq_append_getElem h, List.filter_append, List.map_append]
  cases c : hasS ls[m]
  · rw [List.filter_cons_of_neg (by simp [c])]; rfl
  · rw [List.filter_cons_of_pos c]; rfl
theorem thrK_end (ls : List Ln) (locs : List L) : thrK ls locs ls.length = thrS locs ls := by unfold thrK thrS; rw [List.take_length]
theorem thrK_len (ls : List Ln) (locs : List L) (m : Nat) : (thrK ls locs m).length ≤ m := by
  unfold thrK; rw [List.length_map]; exact Nat.le_trans (List.length_filter_le _ _) (List.length_take_le _ _)
theorem intCs_set (l : List Int) (i : Nat) (n : Int) : intCs (l.set i n) = (intCs l).set i (.int .i64 n) := by unfold intCs; rw [List.map_set]
end Go.Proofs.YtmpiapmfdmllkaaGreatDoor
