/-
  WHAT THE FIVE LISTED ERRORS OF PACKAGE enc GIVE THE WALKS, and that the door's own heap holds them.
-/
import Derived.Test.YtmpjcfehabnhgaaDoorEnE
import Derived.ProofKit
import Derived.LaidMore
import Derived.OpenShut
import Derived.Stop.Joined
import Derived.LaidLaws
namespace Go.Proofs.YtmpjcfehabnhgaaDoor
open Go Go.ChangeShapes Go.WideShapes Go.ChangeAt Go.WideMaps Go.WideElems Go.RowKit
set_option linter.unusedVariables false
set_option maxRecDepth 100000
def laidErrs : List (String × DataW Unit) := [("fencepost/enc.errEnd", Rows.laid_fencepost_enc_errEnd), ("fencepost/enc.errLack", Rows.laid_fencepost_enc_errLack), ("fencepost/enc.errCount", Rows.laid_fencepost_enc_errCount), ("fencepost/enc.errTruth", Rows.laid_fencepost_enc_errTruth), ("fencepost/enc.errLeft", Rows.laid_fencepost_enc_errLeft)]
theorem gE0 : Tryd.prog.globalNamed "fencepost/enc.errEnd" = some 0 ∧ (Tryd.prog.globals[0]?).map (·.type) = some 46 := ⟨by kernel_rfl, by kernel_rfl⟩
theorem gE1 : Tryd.prog.globalNamed "fencepost/enc.errLack" = some 3 ∧ (Tryd.prog.globals[3]?).map (·.type) = some 46 := ⟨by kernel_rfl, by kernel_rfl⟩
theorem gE2 : Tryd.prog.globalNamed "fencepost/enc.errCount" = some 2 ∧ (Tryd.prog.globals[2]?).map (·.type) = some 46 := ⟨by kernel_rfl, by kernel_rfl⟩
theorem gE3 : Tryd.prog.globalNamed "fencepost/enc.errTruth" = some 4 ∧ (Tryd.prog.globals[4]?).map (·.type) = some 46 := ⟨by kernel_rfl, by kernel_rfl⟩
theorem gE4 : Tryd.prog.globalNamed "fencepost/enc.errLeft" = some 1 ∧ (Tryd.prog.globals[1]?).map (·.type) = some 46 := ⟨by kernel_rfl, by kernel_rfl⟩
theorem eStar : ("*errors.errorString" : String) = "*" ++ "errors.errorString" := by decide +kernel
theorem eRow (u : TypeId) (h : Tryd.prog.typeName? 3 u = some "*errors.errorString") : u = 128 :=
  typeName_ptr_named (nm := "errors.errorString") (by rw [← eStar]; kernel_rfl) (by kernel_rfl) (by decide) u (by rw [← eStar]; exact h)
theorem eCells : Tryd.prog.cellsOf 150 = 1 ∧ Tryd.prog.cellsOf 9 = 1 := ⟨by kernel_rfl, by kernel_rfl⟩
theorem cell_ltE {W : World} {g i : Nat} {v : Value} (h : W.cell? ⟨g, i, none⟩ = some v) : g < W.heap.size := by
  rcases Nat.lt_or_ge g W.heap.size with k | k
  · exact k
  · simp [World.cell?, Array.getElem?_eq_none k] at h
theorem errs_of {W : World} (h : laidMetH Tryd.prog laidErrs W) : ∃ a0, ErG W.heap.size a0 W := by
  rw [MakeChecks.laidMetH_plain _ _ _ (by kernel_rfl)] at h
  unfold laidErrs Rows.laid_fencepost_enc_errEnd Rows.laid_fencepost_enc_errLack Rows.laid_fencepost_enc_errCount Rows.laid_fencepost_enc_errTruth Rows.laid_fencepost_enc_errLeft at h
  obtain ⟨ps, ⟨g0, t0, cs0, f0, p0, q0, hg0, ht0, hv0, hd0, ⟨g1, t1, cs1, f1, p1, q1, hg1, ht1, hv1, hd1, ⟨g2, t2, cs2, f2, p2, q2, hg2, ht2, hv2, hd2, ⟨g3, t3, cs3, f3, p3, q3, hg3, ht3, hv3, hd3, ⟨g4, t4, cs4, f4, p4, q4, hg4, ht4, hv4, hd4, hq, e4⟩, e3⟩, e2⟩, e1⟩, e0⟩, hnd, hrows⟩ := h
  obtain rfl := Option.some.inj (gE0.1.symm.trans hg0)
  obtain rfl := Option.some.inj (gE0.2.symm.trans ht0)
  obtain rfl := Option.some.inj (gE1.1.symm.trans hg1)
  obtain rfl := Option.some.inj (gE1.2.symm.trans ht1)
  obtain rfl := Option.some.inj (gE2.1.symm.trans hg2)
  obtain rfl := Option.some.inj (gE2.2.symm.trans ht2)
  obtain rfl := Option.some.inj (gE3.1.symm.trans hg3)
  obtain rfl := Option.some.inj (gE3.2.symm.trans ht3)
  obtain rfl := Option.some.inj (gE4.1.symm.trans hg4)
  obtain rfl := Option.some.inj (gE4.2.symm.trans ht4)
  have hq' : q4 = [] := hq
  subst hq'
  subst e4
  subst e3
  subst e2
  subst e1
  subst e0
  obtain ⟨l0⟩ := cs0
  obtain ⟨l1⟩ := cs1
  obtain ⟨l2⟩ := cs2
  obtain ⟨l3⟩ := cs3
  obtain ⟨l4⟩ := cs4
  have ok0 : ∀ u v, l0 = [.iface u v] → Value.okWide Tryd.prog W .any 0 u v := fun u v e => by
    subst e
    exact (hrows 0 0 (by simp [MemPlace.row])).2 u v (by simpa using World.var?_cell hg0 hv0 0)
  have ok1 : ∀ u v, l1 = [.iface u v] → Value.okWide Tryd.prog W .any 0 u v := fun u v e => by
    subst e
    exact (hrows 3 0 (by simp [MemPlace.row])).2 u v (by simpa using World.var?_cell hg1 hv1 0)
  have ok2 : ∀ u v, l2 = [.iface u v] → Value.okWide Tryd.prog W .any 0 u v := fun u v e => by
    subst e
    exact (hrows 2 0 (by simp [MemPlace.row])).2 u v (by simpa using World.var?_cell hg2 hv2 0)
  have ok3 : ∀ u v, l3 = [.iface u v] → Value.okWide Tryd.prog W .any 0 u v := fun u v e => by
    subst e
    exact (hrows 4 0 (by simp [MemPlace.row])).2 u v (by simpa using World.var?_cell hg3 hv3 0)
  have ok4 : ∀ u v, l4 = [.iface u v] → Value.okWide Tryd.prog W .any 0 u v := fun u v e => by
    subst e
    exact (hrows 1 0 (by simp [MemPlace.row])).2 u v (by simpa using World.var?_cell hg4 hv4 0)
  obtain ⟨a0, s0, rfl, hc0, hs0, hz0, rfl⟩ := errorString_of_trod Tryd.underlying46 eRow Tryd.underlying128 Tryd.underlying150 rfl rfl Tryd.underlying9 eCells.1 eCells.2 hd0 ok0
  obtain ⟨a1, s1, rfl, hc1, hs1, hz1, rfl⟩ := errorString_of_trod Tryd.underlying46 eRow Tryd.underlying128 Tryd.underlying150 rfl rfl Tryd.underlying9 eCells.1 eCells.2 hd1 ok1
  obtain ⟨a2, s2, rfl, hc2, hs2, hz2, rfl⟩ := errorString_of_trod Tryd.underlying46 eRow Tryd.underlying128 Tryd.underlying150 rfl rfl Tryd.underlying9 eCells.1 eCells.2 hd2 ok2
  obtain ⟨a3, s3, rfl, hc3, hs3, hz3, rfl⟩ := errorString_of_trod Tryd.underlying46 eRow Tryd.underlying128 Tryd.underlying150 rfl rfl Tryd.underlying9 eCells.1 eCells.2 hd3 ok3
  obtain ⟨a4, s4, rfl, hc4, hs4, hz4, rfl⟩ := errorString_of_trod Tryd.underlying46 eRow Tryd.underlying128 Tryd.underlying150 rfl rfl Tryd.underlying9 eCells.1 eCells.2 hd4 ok4
  obtain ⟨c0, u0, hb0⟩ := (hrows a0.block a0.off (by simp [MemPlace.row])).1
  obtain ⟨c1, u1, hb1⟩ := (hrows a1.block a1.off (by simp [MemPlace.row])).1
  obtain ⟨c2, u2, hb2⟩ := (hrows a2.block a2.off (by simp [MemPlace.row])).1
  obtain ⟨c3, u3, hb3⟩ := (hrows a3.block a3.off (by simp [MemPlace.row])).1
  obtain ⟨c4, u4, hb4⟩ := (hrows a4.block a4.off (by simp [MemPlace.row])).1
  have k0 : W.cell? ⟨0, 0, none⟩ = some (erV a0) := by simpa using World.var?_cell hg0 hv0 0
  have k1 : W.cell? ⟨3, 0, none⟩ = some (erV a1) := by simpa using World.var?_cell hg1 hv1 0
  have k2 : W.cell? ⟨2, 0, none⟩ = some (erV a2) := by simpa using World.var?_cell hg2 hv2 0
  have k3 : W.cell? ⟨4, 0, none⟩ = some (erV a3) := by simpa using World.var?_cell hg3 hv3 0
  have k4 : W.cell? ⟨1, 0, none⟩ = some (erV a4) := by simpa using World.var?_cell hg4 hv4 0
  have n1 : a1 ≠ a0 := by
    rintro rfl
    simp [MemPlace.row] at hnd
  have n2 : a2 ≠ a0 := by
    rintro rfl
    simp [MemPlace.row] at hnd
  have n3 : a3 ≠ a0 := by
    rintro rfl
    simp [MemPlace.row] at hnd
  have n4 : a4 ≠ a0 := by
    rintro rfl
    simp [MemPlace.row] at hnd
  have z4 : 5 ≤ W.heap.size := by
    have := cell_ltE k0; have := cell_ltE k1; have := cell_ltE k2; have := cell_ltE k3; have := cell_ltE k4
    omega
  exact ⟨a0, k0, ⟨(Array.getElem?_eq_some_iff.1 hb0).1, c0, u0, hb0⟩, ⟨_, k4, a4, rfl, n4, (Array.getElem?_eq_some_iff.1 hb4).1, c4, u4, hb4⟩, ⟨_, k2, a2, rfl, n2, (Array.getElem?_eq_some_iff.1 hb2).1, c2, u2, hb2⟩, ⟨_, k1, a1, rfl, n1, (Array.getElem?_eq_some_iff.1 hb1).1, c1, u1, hb1⟩, ⟨_, k3, a3, rfl, n3, (Array.getElem?_eq_some_iff.1 hb3).1, c3, u3, hb3⟩, z4⟩
theorem door_errs (os : Os) (args : Array Value) : laidMetH Tryd.prog laidErrs ((World.doorLaid Tryd.prog 400 os).forCall (fun _ _ => 0) ⟨#[], args, []⟩).memory :=
  laidMetH_of_parts3 (fuel := 8) (laidMet_of_run' 8 (by kernel_rfl) (by kernel_rfl)) (by kernel_rfl) (by kernel_rfl)
end Go.Proofs.YtmpjcfehabnhgaaDoor
