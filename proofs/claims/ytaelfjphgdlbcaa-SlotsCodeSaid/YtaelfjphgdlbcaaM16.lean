/-
  valid.atomFault: the first wrong atom.
  valid.locFault: too many locations.
  valid.firstFault: the first thing that is wrong with a program, as an error.
  valid.Check, Right: where the first wrong thing stands, and what it is.
-/
import Derived.Test.YtaelfjphgdlbcaaM03
import Derived.Test.YtaelfjphgdlbcaaM02
import Derived.Test.YtaelfjphgdlbcaaM04
namespace Go.Proofs.Ytaelfjphgdlbcaa
open Go.RowKit
set_option linter.unusedVariables false
set_option linter.unusedSimpArgs false
open WordM (L)
open VM

theorem atC_at {n k : Nat} {am : List AtomM.At} (h : k < am.length) : atC n am k = if 6 ≤ k then 5 else if AtomM.askedA am[k] = false then 1 else if (n : Int) ≤ am[k].t then 22 else 0 := by
  unfold atC
  rw [List.getD_eq_getElem?_getD, List.getElem?_eq_getElem h]; rfl
def AfRel (F : Fl) (vi vt vc : Value) (w : World) (i : Value) (wr : World) : Prop :=
  ∃ k : Nat, k ≤ F.cond.length ∧ i = .int .i64 k ∧ (∀ j, j < k → atC F.ths.length F.cond j = 0) ∧ Below w.heap.size w wr ∧ FlBox wr w.heap.size ⟨F.name.toArray⟩ vi vt vc F.all
end Go.Proofs.Ytaelfjphgdlbcaa
namespace Go.Proofs.Ytaelfjphgdlbcaa
open Go.RowKit Go.WideMaps Go.Maps
set_option linter.unusedVariables false
set_option linter.unusedSimpArgs false
open WordM (L)
open VM

theorem heap_alloc (w : World) (o : Obj) : (w.alloc o).heap.size = w.heap.size + 1 := by simp
end Go.Proofs.Ytaelfjphgdlbcaa
namespace Go.Proofs.Ytaelfjphgdlbcaa
open Go.RowKit
set_option linter.unusedVariables false
set_option linter.unusedSimpArgs false
open WordM (L)
open VM

theorem cellsC_zero {F : Fl} (h : cellsC F = 0) : ∀ j, j < F.init.length → cellC F.init j = 0 := by
  intro j hj
  unfold cellsC at h
  cases e : firstAt (cellC F.init) F.init.length with
  | none => exact firstAt_none.1 e j hj
  | some k =>
    rw [e] at h
    exact absurd h (firstAt_some e).2.1
theorem atomT_zero {n : Nat} {am : List AtomM.At} (h : (atomT n am).2.2 = 0) : ∀ j, j < am.length → atC n am j = 0 := by
  intro j hj
  unfold atomT at h
  cases e : firstAt (atC n am) am.length with
  | none => exact firstAt_none.1 e j hj
  | some k =>
    rw [e] at h
    exact absurd h (firstAt_some e).2.1
theorem frameC_zero {F : Fl} (h : frameC F = 0) : WordM.nameB F.name = true ∧ cellsC F = 0 := by
  unfold frameC at h
  by_cases c : WordM.nameB F.name = false
  · rw [if_pos c] at h; cases h
  · rw [if_neg c] at h; exact ⟨by simpa using c, h⟩
theorem cell_name {cs : List (L × Int)} {j : Nat} (hj : j < cs.length) (h : cellC cs j = 0) : WordM.nameB cs[j].1 = true := by
  rw [cellC_at hj] at h
  by_cases c : WordM.nameB cs[j].1 = false
  · rw [if_pos c] at h; cases h
  · simpa using c
theorem atom_asked {n j : Nat} {am : List AtomM.At} (hj : j < am.length) (h : atC n am j = 0) : AtomM.askedA am[j] = true := by
  rw [atC_at hj] at h
  by_cases c6 : 6 ≤ j
  · rw [if_pos c6] at h; cases h
  · rw [if_neg c6] at h
    by_cases c : AtomM.askedA am[j] = false
    · rw [if_pos c] at h; cases h
    · simpa using c
theorem tnames_ne : ∀ (ts : List (List OpsM.Ln)) (x : L), x ∈ tnames ts → x ≠ []
  | [], x, h => by simp [tnames] at h
  | ls :: r, x, h => by
    rcases List.mem_append.1 h with h | h
    · unfold lnames at h
      simpa using (List.mem_filter.1 h).2
    · exact tnames_ne r x h
theorem names_ok {F : Fl} (h1 : frameC F = 0) (h2 : (atomT F.ths.length F.cond).2.2 = 0) : NamesOk F := by
  intro x hx
  rcases List.mem_append.1 hx with h | h
  · obtain ⟨c, hc, rfl⟩ := List.mem_map.1 h
    obtain ⟨j, hj, rfl⟩ := List.mem_iff_getElem.1 hc
    exact AtomM.name_ne (cell_name hj (cellsC_zero (frameC_zero h1).2 j hj))
  · rcases List.mem_append.1 h with h | h
    · exact tnames_ne _ x h
    · obtain ⟨a, ha, rfl⟩ := List.mem_map.1 h
      obtain ⟨hm, ht⟩ := List.mem_filter.1 ha
      obtain ⟨j, hj, rfl⟩ := List.mem_iff_getElem.1 hm
      have hq := atom_asked hj (atomT_zero h2 j hj)
      have ht' : (F.cond[j]).t = -1 := by simpa using ht
      unfold AtomM.askedA AtomM.asked at hq
      rw [if_pos ht'] at hq
      exact AtomM.name_ne hq

end Go.Proofs.Ytaelfjphgdlbcaa
namespace Go.Proofs.Ytaelfjphgdlbcaa
open Go.RowKit
set_option linter.unusedVariables false
set_option linter.unusedSimpArgs false
open WordM (L)
open VM

theorem chk_zero {F : Fl} (h : (chk F).2.2 = 0) : chk F = (0, 0, 0) := by
  unfold chk at *
  by_cases h1 : frameC F ≠ 0
  · rw [if_pos h1] at h; exact absurd h h1
  rw [if_neg h1] at *
  by_cases h2 : (lineT F.ths).2.2 ≠ 0
  · rw [if_pos h2] at h; exact absurd h h2
  rw [if_neg h2] at *
  by_cases h3 : (atomT F.ths.length F.cond).2.2 ≠ 0
  · rw [if_pos h3] at h; exact absurd h h3
  rw [if_neg h3] at *
  by_cases h4 : locC F ≠ 0
  · rw [if_pos h4] at h; exact absurd h h4
  rw [if_neg h4] at *
theorem set_oth {w : World} {x i y j : Nat} {u v : Value} (h : x ≠ y ∨ i ≠ j) (hc : w.cell? ⟨y, j, none⟩ = some u) : (w.setCell ⟨x, i, none⟩ v).cell? ⟨y, j, none⟩ = some u :=
  (World.cell?_setCell_other _ _ _ _ (fun e => by injection e with e1 e2; exact h.elim (fun k => k e1) (fun k => k e2))).trans hc
theorem box_1 (w : World) (cs : Array Value) (T : TypeId) (i : Nat) {v : Value} (h : cs[i]? = some v) :
    (w.alloc (.cells cs T)).cell? ⟨w.heap.size, i, none⟩ = some v ∧ (w.alloc (.cells cs T)).frozen? ⟨w.heap.size, i, none⟩ = false := kept_box (Below.refl _ _) i h
theorem box_2 (w : World) (cs : Array Value) (T : TypeId) (o : Obj) (i : Nat) {v : Value} (h : cs[i]? = some v) :
    ((w.alloc (.cells cs T)).alloc o).cell? ⟨w.heap.size, i, none⟩ = some v ∧ ((w.alloc (.cells cs T)).alloc o).frozen? ⟨w.heap.size, i, none⟩ = false := kept_box ((Below.refl _ _).alloc (Nat.le_refl _) o) i h
end Go.Proofs.Ytaelfjphgdlbcaa
