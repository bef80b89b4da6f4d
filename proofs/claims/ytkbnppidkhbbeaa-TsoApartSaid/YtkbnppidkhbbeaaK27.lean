/-
  sc.Right: may a state be so?
  LAYER 10: head, a live question whose answer is fixed.
-/
import Derived.Test.YtkbnppidkhbbeaaK04
import Derived.Test.YtkbnppidkhbbeaaScY
import Derived.Deep.RegionHeld3
import Derived.Deep.DeepCutAuto
import Derived.Test.YtkbnppidkhbbeaaScPs
import Derived.Test.YtkbnppidkhbbeaaScPb
set_option linter.unusedVariables false
set_option linter.unusedSimpArgs false
namespace Go.Proofs.Ytkbnppidkhbbeaa
open Go.RowKit
set_option linter.unusedVariables false
set_option linter.unusedSimpArgs false
open CodM (St Pg posI)
open BfM (Wr plc)
open ScM

def WIfRel (n : Nat) (ws : List Wr) (w : World) (i : Value) (wr : World) : Prop := ∃ k : Nat, k ≤ ws.length ∧ i = .int .i64 k ∧ (∀ j (hj : j < ws.length), j < k → (!plc n ws[j].loc) = false) ∧ Below w.heap.size w wr
theorem posI_allw (n : Nat) (ws : List Wr) : decide (0 ≤ posI (fun x => !plc n x.loc) ws) = !(ws.all (fun x => plc n x.loc)) := by
  by_cases h : ws.all (fun x => plc n x.loc) = true
  · rw [h]
    have : posI (fun x : Wr => !plc n x.loc) ws = -1 := CodM.posI_none (fun j hj => by
      have := List.all_eq_true.1 h ws[j] (List.getElem_mem hj)
      simp [this])
    rw [this]; rfl
  · have h' : ws.all (fun x => plc n x.loc) = false := by simpa using h
    rw [h']
    obtain ⟨x, hx, hn⟩ := List.all_eq_false.1 h'
    unfold posI
    cases e : ws.findIdx? (fun x => !plc n x.loc) with
    | none =>
      rw [List.findIdx?_eq_none_iff] at e
      exact absurd (e _ hx) (by simpa using hn)
    | some k => simp
/-- May a thread be so, as an answer? -/
def okThB (len places : Nat) (t : Th) : Bool := decide (0 ≤ t.at') && decide (t.at' ≤ len) && decide (t.regs.length = 4) && t.buf.all (fun x => plc places x.loc)
theorem okThB_iff {len places : Nat} {t : Th} : okThB len places t = true ↔ OkTh len places t := by
  unfold okThB
  simp only [Bool.and_eq_true, decide_eq_true_eq, List.all_eq_true]
  exact ⟨fun ⟨⟨⟨a, b⟩, c⟩, d⟩ => ⟨a, b, c, d⟩, fun h => ⟨⟨⟨h.lo, h.hi⟩, h.regs⟩, h.buf⟩⟩
def thV (t : Th) (vr vb : Value) : Value := .agg #[.int .i64 t.at', vr, .bool t.eq, vb]
/-- What EqualFunc asks of the threads. -/
def AllOk (m : Nat) (tss : List (List St)) (ts : List Th) : Prop := tss.length = ts.length ∧ ∀ j (h1 : j < tss.length) (h2 : j < ts.length), OkTh tss[j].length m ts[j]
def EqRel (m : Nat) (tss : List (List St)) (ts : List Th) (w : World) (i : Value) (wr : World) : Prop := ∃ k : Nat, k ≤ tss.length ∧ i = .int .i64 k ∧ (∀ j (h1 : j < tss.length) (h2 : j < ts.length), j < k → OkTh tss[j].length m ts[j]) ∧ Below w.heap.size w wr
theorem okSt_iff {P : Pg} {s : Sta} : OkSt P s ↔ s.mem.length = P.init.length ∧ AllOk s.mem.length P.ths s.ths :=
  ⟨fun h => ⟨h.mem, h.ths.symm, fun j h1 h2 => h.th j h2 h1⟩, fun h => ⟨h.1, h.2.1.symm, fun j h1 h2 => h.2.2 j h2 h1⟩⟩
end Go.Proofs.Ytkbnppidkhbbeaa
namespace Go.Proofs.Ytkbnppidkhbbeaa
open Go.RowKit
set_option linter.unusedVariables false
set_option linter.unusedSimpArgs false
open CodM (St Pg rightP)
open BfM (Wr plc)
open ScM

/-- A step keeps a state as wide as it is. -/
theorem stp_wide {P : Pg} {s : Sta} (t : Int) (h : WideS s) : WideS (stp P s t) := by
  obtain ⟨h1, h2⟩ := stp_len P s t
  refine ⟨by rw [h1]; exact h.mem, by rw [h2]; exact h.ths, fun x hx => ?_⟩
  unfold stp at hx
  split at hx
  · rename_i y hh e1 e2
    obtain ⟨hk, e⟩ := List.getElem?_eq_some_iff.1 e2
    rcases List.mem_or_eq_of_mem_set hx with hx | rfl
    · exact h.regs x hx
    · have := h.regs hh (by rw [← e]; exact List.getElem_mem hk)
      exact ⟨by show (stR y s.mem hh.regs).length ≤ 300; rw [stR_len]; exact this.1, this.2⟩
  · exact h.regs x hx
theorem beg_wide {P : Pg} (h : rightP P = true) : WideS (beg P) := by
  obtain ⟨h1, h2, h3, -⟩ := right_ths h
  refine ⟨by show P.init.length ≤ 300; omega, by show (P.ths.map _).length ≤ 9; rw [List.length_map]; omega, fun x hx => ?_⟩
  have hx : x ∈ P.ths.map fun _ => begTh := hx
  obtain ⟨_, _, rfl⟩ := List.mem_map.1 hx
  exact ⟨by decide, by decide⟩
/-- The code that is asked of. -/
def hP : Pg := ⟨[5], [[⟨1, 2, 0, 7, 0⟩, ⟨5, 2, 0, 0, 0⟩, ⟨7, 2, 0, 5, 0⟩, ⟨9, 0, 0, 0, 5⟩, ⟨4, 0, 0, 9, 0⟩]]⟩
def hS : Nat → Sta
  | 0 => beg hP
  | k + 1 => stp hP (hS k) 0
theorem hP_right : rightP hP = true := by decide
theorem hS_ok : ∀ k, OkSt hP (hS k)
  | 0 => beg_ok hP
  | k + 1 => stp_ok hP_right (hS_ok k) 0
theorem hS_wide : ∀ k, WideS (hS k)
  | 0 => beg_wide hP_right
  | k + 1 => stp_wide 0 (hS_wide k)
theorem hS_at : ∀ k, k < 4 → (atS hP (hS k) 0).isSome = true
  | 0, _ => by decide
  | 1, _ => by decide
  | 2, _ => by decide
  | 3, _ => by decide
theorem hS_4 : hS 4 = ⟨[7], [⟨5, [0, 0, 5, 0], true, []⟩]⟩ := by rfl
theorem hS_n0 : (atS hP (hS 4) 0).isSome = false := by decide
theorem hS_n1 : (atS hP (hS 4) 1).isSome = false := by decide
/-- The literal code in memory. -/
theorem hP_mem (w : World) : PgZ ((((w.alloc (.cells #[.int .i64 5] 3)).alloc (.cells #[.int .i64 1, .int .i64 2, .int .i64 0, .int .i64 7, .int .i64 0, .int .i64 5, .int .i64 2, .int .i64 0, .int .i64 0, .int .i64 0, .int .i64 7, .int .i64 2, .int .i64 0, .int .i64 5, .int .i64 0, .int .i64 9, .int .i64 0, .int .i64 0, .int .i64 0, .int .i64 5, .int .i64 4, .int .i64 0, .int .i64 0, .int .i64 9, .int .i64 0] 49)).alloc (.cells #[.slice (some ⟨w.heap.size + 1, 0, none⟩) 5 5] 56)).alloc (.cells #[.slice (some ⟨w.heap.size, 0, none⟩) 1 1, .slice (some ⟨w.heap.size + 1 + 1, 0, none⟩) 1 1] 25)).heap.size ((((w.alloc (.cells #[.int .i64 5] 3)).alloc (.cells #[.int .i64 1, .int .i64 2, .int .i64 0, .int .i64 7, .int .i64 0, .int .i64 5, .int .i64 2, .int .i64 0, .int .i64 0, .int .i64 0, .int .i64 7, .int .i64 2, .int .i64 0, .int .i64 5, .int .i64 0, .int .i64 9, .int .i64 0, .int .i64 0, .int .i64 0, .int .i64 5, .int .i64 4, .int .i64 0, .int .i64 0, .int .i64 9, .int .i64 0] 49)).alloc (.cells #[.slice (some ⟨w.heap.size + 1, 0, none⟩) 5 5] 56)).alloc (.cells #[.slice (some ⟨w.heap.size, 0, none⟩) 1 1, .slice (some ⟨w.heap.size + 1 + 1, 0, none⟩) 1 1] 25)) (.agg #[.slice (some ⟨w.heap.size, 0, none⟩) 1 1, .slice (some ⟨w.heap.size + 1 + 1, 0, none⟩) 1 1]) hP := by
  have o1 := World.ownsRow_lit (base := w.heap.size) (e := 3) (size := 1) w #[.int .i64 5] 1 (Nat.le_refl _) (by decide) rfl
  have o2 := World.ownsRow_lit (base := w.heap.size) (e := 49) (size := 5) (w.alloc (.cells #[.int .i64 5] 3)) #[.int .i64 1, .int .i64 2, .int .i64 0, .int .i64 7, .int .i64 0, .int .i64 5, .int .i64 2, .int .i64 0, .int .i64 0, .int .i64 0, .int .i64 7, .int .i64 2, .int .i64 0, .int .i64 5, .int .i64 0, .int .i64 9, .int .i64 0, .int .i64 0, .int .i64 0, .int .i64 5, .int .i64 4, .int .i64 0, .int .i64 0, .int .i64 9, .int .i64 0] 5 (by simp) (by decide) rfl
  have o3 := World.ownsRow_lit (base := w.heap.size) (e := 56) (size := 1) ((w.alloc (.cells #[.int .i64 5] 3)).alloc (.cells #[.int .i64 1, .int .i64 2, .int .i64 0, .int .i64 7, .int .i64 0, .int .i64 5, .int .i64 2, .int .i64 0, .int .i64 0, .int .i64 0, .int .i64 7, .int .i64 2, .int .i64 0, .int .i64 5, .int .i64 0, .int .i64 9, .int .i64 0, .int .i64 0, .int .i64 0, .int .i64 5, .int .i64 4, .int .i64 0, .int .i64 0, .int .i64 9, .int .i64 0] 49)) #[.slice (some ⟨w.heap.size + 1, 0, none⟩) 5 5] 1 (by simp; omega) (by decide) rfl
  rw [World.size_alloc] at o2
  rw [World.size_alloc, World.size_alloc] at o3
  have o1 := own_below (own_below (own_below o1 (below_al (Below.refl _ _) (.cells #[.int .i64 1, .int .i64 2, .int .i64 0, .int .i64 7, .int .i64 0, .int .i64 5, .int .i64 2, .int .i64 0, .int .i64 0, .int .i64 0, .int .i64 7, .int .i64 2, .int .i64 0, .int .i64 5, .int .i64 0, .int .i64 9, .int .i64 0, .int .i64 0, .int .i64 0, .int .i64 5, .int .i64 4, .int .i64 0, .int .i64 0, .int .i64 9, .int .i64 0] 49))) (below_al (Below.refl _ _) (.cells #[.slice (some ⟨w.heap.size + 1, 0, none⟩) 5 5] 56))) (below_al (Below.refl _ _) (.cells #[.slice (some ⟨w.heap.size, 0, none⟩) 1 1, .slice (some ⟨w.heap.size + 1 + 1, 0, none⟩) 1 1] 25))
  have o2 := own_below (own_below o2 (below_al (Below.refl _ _) (.cells #[.slice (some ⟨w.heap.size + 1, 0, none⟩) 5 5] 56))) (below_al (Below.refl _ _) (.cells #[.slice (some ⟨w.heap.size, 0, none⟩) 1 1, .slice (some ⟨w.heap.size + 1 + 1, 0, none⟩) 1 1] 25))
  have o3 := own_below o3 (below_al (Below.refl _ _) (.cells #[.slice (some ⟨w.heap.size, 0, none⟩) 1 1, .slice (some ⟨w.heap.size + 1 + 1, 0, none⟩) 1 1] 25))
  generalize ((((w.alloc (.cells #[.int .i64 5] 3)).alloc (.cells #[.int .i64 1, .int .i64 2, .int .i64 0, .int .i64 7, .int .i64 0, .int .i64 5, .int .i64 2, .int .i64 0, .int .i64 0, .int .i64 0, .int .i64 7, .int .i64 2, .int .i64 0, .int .i64 5, .int .i64 0, .int .i64 9, .int .i64 0, .int .i64 0, .int .i64 0, .int .i64 5, .int .i64 4, .int .i64 0, .int .i64 0, .int .i64 9, .int .i64 0] 49)).alloc (.cells #[.slice (some ⟨w.heap.size + 1, 0, none⟩) 5 5] 56)).alloc (.cells #[.slice (some ⟨w.heap.size, 0, none⟩) 1 1, .slice (some ⟨w.heap.size + 1 + 1, 0, none⟩) 1 1] 25)) = W at *
  have h1 : Ints W.heap.size W (.slice (some ⟨w.heap.size, 0, none⟩) 1 1) [5] := ints_of_own (ns := [5]) o1 (Nat.le_refl _)
  refine ⟨_, _, rfl, ⟨h1, sss_of_own (ts := hP.ths) o3 (Nat.le_refl _) (fun j hj => ?_)⟩, intR_of h1 (fun n c e => by cases e)⟩
  have hj1 : j < 1 := hj
  obtain rfl : j = 0 := by omega
  exact ⟨_, rfl, sts_of_own (ss := hP.ths[0]) o2 (Nat.le_refl _)⟩
theorem hS_len1 (k : Nat) : (hS k).mem.length = 1 := (hS_ok k).mem
theorem hS_len2 (k : Nat) : (hS k).ths.length = 1 := (hS_ok k).ths
theorem OwnSt.sv {base : Nat} {w : World} {vm vt : Value} {s : Sta} {ps : List TV} (h : OwnSt base w vm vt s ps) : StaV w.heap.size w (.agg #[vm, vt]) s := ⟨_, _, rfl, h.read (Nat.le_refl _)⟩
end Go.Proofs.Ytkbnppidkhbbeaa
