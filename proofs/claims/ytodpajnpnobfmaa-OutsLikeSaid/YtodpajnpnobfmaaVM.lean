/-
  PLAIN MATHEMATICS OF LAYER 4: what is wrong with a line of a thread.
-/
import Derived.Test.YtodpajnpnobfmaaCMap
set_option linter.unusedSimpArgs false
namespace Go.Proofs.Ytodpajnpnobfmaa.VM
open WordM (L)
open OpsM (Ln)
set_option linter.unusedVariables false

def insB (l : Ln) : Bool := !(l.op == 6) && !(l.op == 11)
def labB (l : Ln) : Bool := l.op == 11
def jmpB (l : Ln) : Bool := decide (8 ≤ l.op) && decide (l.op ≤ 10)
def cI (ls : List Ln) : Nat := (ls.filter insB).length
def cM (ls : List Ln) : Nat := (ls.filter labB).length
/-- Is the line right ahead of the k-th a fence? -/
def fenB (ls : List Ln) (k : Nat) : Bool := match k with | 0 => false | k + 1 => match ls[k]? with | some l => l.op == 6 | none => false
/-- What is wrong with the k-th line, x; 0, if nothing is. -/
def lineC (ls : List Ln) (k : Nat) (x : Ln) : Int :=
  if OpsM.rightL x = false then 11 else if x.op = 11 ∧ 0 < lcnt (ls.take k) x.label then 21 else if x.op = 6 ∧ fenB ls k = true then 23
  else if jmpB x = true ∧ lcnt (ls.drop (k + 1)) x.label = 0 then 22 else if (insB x = true ∧ 8 ≤ cI (ls.take k)) ∨ (x.op = 11 ∧ 8 ≤ cM (ls.take k)) then 5 else 0
theorem cI_take (ls : List Ln) (k : Nat) (h : k < ls.length) : cI (ls.take (k + 1)) = cI (ls.take k) + if insB ls[k] then 1 else 0 := by
  unfold cI
  rw [List.take_succ_eq_append_getElem h, List.filter_append, List.length_append]
  cases c : insB ls[k]
  · rw [List.filter_cons_of_neg (by simp [c])]; rfl
  · rw [List.filter_cons_of_pos c]; rfl
theorem cM_take (ls : List Ln) (k : Nat) (h : k < ls.length) : cM (ls.take (k + 1)) = cM (ls.take k) + if labB ls[k] then 1 else 0 := by
  unfold cM
  rw [List.take_succ_eq_append_getElem h, List.filter_append, List.length_append]
  cases c : labB ls[k]
  · rw [List.filter_cons_of_neg (by simp [c])]; rfl
  · rw [List.filter_cons_of_pos c]; rfl
theorem cI_le (ls : List Ln) (k : Nat) : cI (ls.take k) ≤ k := Nat.le_trans (List.length_filter_le _ _) (List.length_take_le _ _)
theorem cM_le (ls : List Ln) (k : Nat) : cM (ls.take k) ≤ k := Nat.le_trans (List.length_filter_le _ _) (List.length_take_le _ _)
theorem lcnt_drop (ls : List Ln) (k : Nat) (h : k < ls.length) (s : L) : lcnt (ls.drop k) s = (if ls[k].op = 11 ∧ ls[k].label = s then 1 else 0) + lcnt (ls.drop (k + 1)) s := by
  unfold lcnt
  rw [List.drop_eq_getElem_cons h]
  by_cases c : ls[k].op = 11 ∧ ls[k].label = s
  · rw [if_pos c, List.filter_cons_of_pos (by simp [c.1, c.2]), List.length_cons]; omega
  · rw [if_neg c, List.filter_cons_of_neg (by simpa using c)]; omega
end Go.Proofs.Ytodpajnpnobfmaa.VM
