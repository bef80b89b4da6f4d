/-
  WHAT THE LISTED TABLE OF REGISTERS GIVES THE WALKS, and that the door's own heap holds it.
  WHAT THE TWO LISTED VARIABLES GIVE THE WALKS (the table of registers, the type of errors), and that the door's own heap holds them.
-/
import Derived.Test.YtaelfjphgdlbcaaGreatDoorRows
import Derived.Test.YtaelfjphgdlbcaaGreatDoorNamOp
import Derived.ProofKit
import Derived.LaidMore
import Derived.OpenShut
import Derived.Stop.Joined
import Derived.Test.YtaelfjphgdlbcaaGreatDoorErr
import Derived.LaidHandle
namespace Go.Proofs.YtaelfjphgdlbcaaGreatDoor
open Go.ChangeShapes Go.WideShapes Go.ChangeAt Go.WideMaps Go.WideElems Go.RowKit
set_option linter.unusedVariables false
set_option maxRecDepth 100000

theorem gRegs : Tryz.prog.globalNamed "fencepost/word.regs" = some 1 := by kernel_rfl
theorem tRegs : (Tryz.prog.globals[1]?).map (·.type) = some 99 := by kernel_rfl
def laidRegs : List (String × DataW Unit) := [("fencepost/word.regs", Rows.laid_fencepost_word_regs)]

theorem cell_lt {W : World} {g i : Nat} {v : Value} (h : W.cell? ⟨g, i, none⟩ = some v) : g < W.heap.size := by
  rcases Nat.lt_or_ge g W.heap.size with k | k
  · exact k
  · simp [World.cell?, Array.getElem?_eq_none k] at h

theorem cell_text {a : Value} {x : DataW Unit × List MemPlace} {l : List UInt8}
    (h : ∃ s : ByteArray, [a] = [Value.string s] ∧ x = (.lit (.string s.data.toList), []) ∧ s.size ≤ maxLen) (hx : x.1 = .lit (.string l)) : a = .string ⟨l.toArray⟩ := by
  obtain ⟨s, e1, e2, _⟩ := h
  rw [e2] at hx
  injection hx with hx
  injection hx with hx
  injection e1 with e1 _
  rw [e1, ← hx]

theorem of_laid {W : World} (h : laidMetH Tryz.prog laidRegs W) : Regs W := by
  rw [MakeChecks.laidMetH_plain _ _ _ (by kernel_rfl)] at h
  obtain ⟨ps, ⟨g0, t0, cs0, f0, p0, q0, hg0, ht0, hv0, hd0, _⟩, _, _⟩ := h
  obtain rfl := Option.some.inj (gRegs.symm.trans hg0)
  obtain rfl := Option.some.inj (tRegs.symm.trans ht0)
  obtain ⟨xs, m1, rfl, hx1, hlen, hn4, hel⟩ := DataW.trod_array Tryz.underlying99 hd0
  have c1 : Tryz.prog.cellsOf 9 = 1 := by kernel_rfl
  have c4 : Tryz.prog.cellsOf 99 = 4 := by kernel_rfl
  rw [c4] at hlen
  simp only [c1] at hel
  obtain ⟨l⟩ := cs0
  match l, hlen, xs, hn4, hx1, hel, hv0 with
  | [a, b, c, d], _, [x0, x1, x2, x3], _, hx1, hel, hv0 =>
    injection hx1 with hx1 _
    injection hx1 with hx1
    simp only [List.map_cons, List.map_nil, List.cons.injEq] at hx1
    obtain ⟨y0, y1, y2, y3, _⟩ := hx1
    have e0 := DataW.trod_string Tryz.underlying9 (show DataW.trod _ Tryz.prog W 0 _ false m1 9 [a] = some x0 from hel 0 (by decide))
    have e1 := DataW.trod_string Tryz.underlying9 (show DataW.trod _ Tryz.prog W 0 _ false m1 9 [b] = some x1 from hel 1 (by decide))
    have e2 := DataW.trod_string Tryz.underlying9 (show DataW.trod _ Tryz.prog W 0 _ false m1 9 [c] = some x2 from hel 2 (by decide))
    have e3 := DataW.trod_string Tryz.underlying9 (show DataW.trod _ Tryz.prog W 0 _ false m1 9 [d] = some x3 from hel 3 (by decide))
    have k0 := World.var?_cell hg0 hv0 0
    have k1 := World.var?_cell hg0 hv0 1
    have k2 := World.var?_cell hg0 hv0 2
    have k3 := World.var?_cell hg0 hv0 3
    have f0 : a = .string ⟨#[101, 97, 120]⟩ := cell_text e0 y0.symm
    have f1 : b = .string ⟨#[101, 98, 120]⟩ := cell_text e1 y1.symm
    have f2 : c = .string ⟨#[101, 99, 120]⟩ := cell_text e2 y2.symm
    have f3 : d = .string ⟨#[101, 100, 120]⟩ := cell_text e3 y3.symm
    subst f0; subst f1; subst f2; subst f3
    exact ⟨k0, k1, k2, k3, cell_lt k0⟩

theorem door_met (os : Os) (args : Array Value) : laidMetH Tryz.prog laidRegs ((World.doorLaid Tryz.prog 400 os).forCall (fun _ _ => 0) ⟨#[], args, []⟩).memory :=
  laidMetH_of_parts3 (fuel := 8) (laidMet_of_run' 8 (by kernel_rfl) (by kernel_rfl)) (by kernel_rfl) (by kernel_rfl)
end Go.Proofs.YtaelfjphgdlbcaaGreatDoor
namespace Go.Proofs.YtaelfjphgdlbcaaGreatDoor
open Go.ChangeShapes Go.WideShapes Go.ChangeAt Go.WideMaps Go.WideElems Go.RowKit
set_option linter.unusedVariables false
set_option maxRecDepth 100000

def laidTwo : List (String × DataW Unit) := [("errors.errorType", Rows.laid_errors_errorType), ("fencepost/word.regs", Rows.laid_fencepost_word_regs)]
theorem gErr : Tryz.prog.globalNamed "errors.errorType" = some 2 := by kernel_rfl
theorem gRt : (Tryz.prog.cutTypes.find? (·.1 == "internal/reflectlite.rtype")).map (·.2) = some 121 := by kernel_rfl
theorem oneErr : ((List.range Tryz.prog.types.size).filter fun t => Tryz.prog.rowNamed t [101, 114, 114, 111, 114]) = [90] := by kernel_rfl
theorem two_of {W : World} (h : laidMetH Tryz.prog laidTwo W) : Regs W ∧ EA.ErrG W := by
  have h' : laidMet Tryz.prog laidRegs W ∧ handlesMet Tryz.prog [("errors.errorType", Rows.laid_errors_errorType)] W := h
  refine ⟨of_laid (by rw [MakeChecks.laidMetH_plain _ _ _ (by kernel_rfl)]; exact h'.1), ?_⟩
  obtain ⟨name, u, ty, e1, e2, e3, e4, e5⟩ := h'.2 ("errors.errorType", Rows.laid_errors_errorType) (List.mem_singleton.2 rfl)
  have en : name = [101, 114, 114, 111, 114] := (Option.some.inj e1).symm
  subst en
  obtain rfl := Option.some.inj (gRt.symm.trans e2)
  have hm : ty ∈ (List.range Tryz.prog.types.size).filter fun t => Tryz.prog.rowNamed t [101, 114, 114, 111, 114] := List.mem_filter.2 ⟨List.mem_range.2 e3, e4⟩
  rw [oneErr] at hm
  obtain rfl := List.mem_singleton.1 hm
  have hh : typeHandle Tryz.prog 90 = .pointer (some ⟨3, 90, none⟩) := by kernel_rfl
  rw [hh] at e5
  unfold EA.ErrG
  simpa using World.var?_cell gErr e5 0
theorem door_two (os : Os) (args : Array Value) : laidMetH Tryz.prog laidTwo ((World.doorLaid Tryz.prog 400 os).forCall (fun _ _ => 0) ⟨#[], args, []⟩).memory :=
  laidMetH_of_parts3 (fuel := 8) (laidMet_of_run' 8 (by kernel_rfl) (by kernel_rfl)) (by kernel_rfl) (by kernel_rfl)
end Go.Proofs.YtaelfjphgdlbcaaGreatDoor
