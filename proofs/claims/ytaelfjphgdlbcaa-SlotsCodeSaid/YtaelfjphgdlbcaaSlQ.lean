/-
  MATHEMATICS OF LAYER 8: right codes' jumps; rows gone through from behind.
-/
import Derived.Test.YtaelfjphgdlbcaaSHg
namespace Go.Proofs.Ytaelfjphgdlbcaa
open Go.RowKit
set_option linter.unusedVariables false
set_option linter.unusedSimpArgs false
open CodM (St Pg hasS)
open SlM

theorem jmpS_op {s : St} (h1 : s.op ≤ 10) : jmpS s = decide (8 ≤ s.op) := by
  unfold jmpS
  by_cases h : 8 ≤ s.op
  · rw [decide_eq_true h]
    have : s.op = 8 ∨ s.op = 9 ∨ s.op = 10 := by omega
    rcases this with e | e | e <;> simp [e]
  · rw [decide_eq_false h]
    simp; omega
/-- What is right of a step. -/
structure StR (len k : Nat) (s : St) : Prop where
  op : 1 ≤ s.op ∧ s.op ≤ 10
  j : jmpS s = decide (8 ≤ s.op)
  t : 8 ≤ s.op → (k : Int) + 1 ≤ s.5 ∧ s.5 ≤ len
  z : ¬ 8 ≤ s.op → s.5 = 0
theorem SmallC.st {P : Pg} (h : SmallC P) {t k : Nat} (ht : t < P.ths.length) (hk : k < P.ths[t].length) : StR P.ths[t].length k P.ths[t][k] := by
  have hr := h.r
  unfold CodM.rightP at hr
  simp only [Bool.and_eq_true, List.all_eq_true] at hr
  have h1 := (CodM.rightT_at (hr.2 _ (List.getElem_mem ht))).2 k hk
  unfold CodM.rightS at h1
  simp only [Bool.and_eq_true, decide_eq_true_eq] at h1
  obtain ⟨⟨h2, h3⟩, -, -, -, h4⟩ := h1
  refine ⟨⟨h2, h3⟩, jmpS_op h3, fun h8 => ?_, fun h8 => ?_⟩
  · unfold CodM.hTo CodM.zOr at h4
    rw [decide_eq_true h8, if_pos rfl] at h4
    simp only [Bool.and_eq_true, decide_eq_true_eq] at h4
    exact h4
  · unfold CodM.hTo CodM.zOr at h4
    rw [decide_eq_false h8] at h4
    simpa using h4
theorem SmallC.jmp {P : Pg} (h : SmallC P) : ∀ ss ∈ P.ths, ∀ s ∈ ss, jmpS s = true → 0 ≤ s.5 ∧ s.5 ≤ 1000000 := by
  intro ss hs s hx hj
  obtain ⟨t, ht, rfl⟩ := List.mem_iff_getElem.1 hs
  obtain ⟨k, hk, rfl⟩ := List.mem_iff_getElem.1 hx
  have h1 := h.st ht hk
  rw [h1.j, decide_eq_true_eq] at hj
  have h2 := h1.t hj
  have h3 := h.f _ (List.getElem_mem ht)
  omega
theorem apart_symm {a b : Option Nat} (h : a = none ∨ a ≠ b) : b = none ∨ b ≠ a := by
  cases b with
  | none => exact .inl rfl
  | some x => exact .inr (fun e => by
      rcases h with h | h
      · rw [h] at e; cases e
      · exact h e.symm)
theorem apart_new {a a' b : Option Nat} {n : Nat} (h : a = none ∨ a ≠ b) (hat : a' = a ∨ a' = some n) (hlt : ∀ g, b = some g → g < n) : a' = none ∨ a' ≠ b := by
  rcases hat with rfl | rfl
  · exact h
  · exact .inr (fun e => by have := hlt n e.symm; omega)
/-- What a row gone through from behind, down to place k, leaves: those that are no slot's; each twice. -/
structure NoR (g : List Int) (m : Nat) (k : Nat) (os bs : List Int) : Prop where
  kl : k ≤ g.length
  lo : os.length ≤ g.length - k
  lb : bs.length ≤ 2 * (g.length - k)
  o : ∀ x ∈ os, x < 0 ∨ (m : Int) ≤ x
  b : ∀ x, x ∈ bs ↔ x ∈ g.drop k
theorem NoR.start (g : List Int) (m : Nat) : NoR g m g.length [] [] := ⟨Nat.le_refl _, by simp, by simp, by simp, by simp⟩
theorem drop_mem {g : List Int} {k : Nat} (hk : k < g.length) (x : Int) : x ∈ g.drop k ↔ x = g[k] ∨ x ∈ g.drop (k + 1) := by
  rw [List.drop_eq_getElem_cons hk, List.mem_cons]
theorem NoR.out {g : List Int} {m k : Nat} {os bs : List Int} (h : NoR g m (k + 1) os bs) (hk : k < g.length) (hx : g[k] < 0 ∨ (m : Int) ≤ g[k]) : NoR g m k (os ++ [g[k]]) (bs ++ [g[k], g[k]]) :=
  ⟨by omega, by have := h.lo; simp; omega, by have := h.lb; simp; omega, fun x hm => by
    rcases List.mem_append.1 hm with hm | hm
    · exact h.o x hm
    · rw [List.mem_singleton.1 hm]; exact hx, fun x => by rw [List.mem_append, h.b, drop_mem hk]; simp [or_comm]⟩
theorem NoR.inn {g : List Int} {m k : Nat} {os bs : List Int} (h : NoR g m (k + 1) os bs) (hk : k < g.length) : NoR g m k os (bs ++ [g[k], g[k]]) :=
  ⟨by omega, by have := h.lo; omega, by have := h.lb; simp; omega, h.o, fun x => by rw [List.mem_append, h.b, drop_mem hk]; simp [or_comm]⟩
theorem NoR.insO {P : Pg} {g os bs : List Int} (h : NoR g (many anyS P.ths) 0 os bs) : insP P os = P := insP_none (fun n hn => by
  rw [← Bool.not_eq_true, has_mem]
  intro c
  have := h.o _ c
  omega)
theorem NoR.insB {P : Pg} {g os bs : List Int} (h : NoR g (many anyS P.ths) 0 os bs) : insP P bs = insP P g := insP_same (fun n hn => by
  have h1 := h.b (n : Int)
  rw [List.drop_zero] at h1
  rw [Bool.eq_iff_iff, has_mem, has_mem, h1])
theorem insP_nil (P : Pg) : insP P [] = P := insP_none (fun n hn => rfl)
end Go.Proofs.Ytaelfjphgdlbcaa
