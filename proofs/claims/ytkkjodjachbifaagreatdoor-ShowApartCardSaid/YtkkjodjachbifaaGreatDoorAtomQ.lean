/-
  ATOMS as values; ops.Asked, over any world that holds the registers.
-/
import Derived.Test.YtkkjodjachbifaaGreatDoorOpsW
import Derived.Test.YtkkjodjachbifaaGreatDoorMath
import Derived.Test.YtkkjodjachbifaaGreatDoorKit2
import Derived.StillTailTactics
import Derived.Deep.RegionHeld3
namespace Go.Proofs.YtkkjodjachbifaaGreatDoor
open Go.RowKit
set_option linter.unusedVariables false
set_option linter.unusedSimpArgs false
open WordM (L)

/-- An atom as a value. -/
def atv (t : Int) (nm : ByteArray) (n : Int) : Value := .agg #[.int .i64 t, .string nm, .int .i64 n]
def atw (a : AtomM.At) : Value := atv a.t ⟨a.nm.toArray⟩ a.n

theorem below_undrew {w w' : World} (h : Below w.drew.heap.size w.drew w') : Below w.heap.size w w' := (below_drewN (Below.refl w.heap.size w) 1).trans h
set_option maxHeartbeats 1000000 in
set_option maxRecDepth 100000 in
theorem asked_any (t n : Int) (nm : ByteArray) (w : World) (hr : Regs w) :
    Calls Tryz.prog 63 #[atv t nm n] w fun e w' => e = .returned (.bool (AtomM.asked t nm.data.toList)) ∧ Below w.heap.size w w' := by
  have HN := Lib.hid (fun W h => name_any nm W h)
  have HR := Lib.hid (fun W h => register_any nm W h)
  have HW := Lib.hid (hr.below ((Below.refl w.heap.size w).alloc (Nat.le_refl _) (.cells #[.int .i64 t, .string nm, .int .i64 n] 54)))
  clear hr
  by_cases h : t = -1
  · have E := Lib.hid (show AtomM.asked t nm.data.toList = WordM.nameB nm.data.toList by unfold AtomM.asked; rw [if_pos h])
    subst h
    unfold atv
    go_enter Tryz.func63, Tryz.ntmps63
    go_wp2_with (go_at_call 79; refine (HN.out _ HW.out).mono ?_; rintro e w' ⟨rfl, rfl⟩)
    go_ret
    exact ⟨by rw [E.out]; rfl, (Below.refl _ _).alloc (Nat.le_refl _) _⟩
  · have E := Lib.hid (show AtomM.asked t nm.data.toList = (decide (0 ≤ t) && (decide (t < 3) && OpsM.regB nm.data.toList)) by unfold AtomM.asked; rw [if_neg h])
    have h' : (t == -1) = false := beq_eq_false_iff_ne.2 h
    clear h
    generalize AtomM.asked t nm.data.toList = res at *
    generalize OpsM.regB nm.data.toList = rb at *
    unfold atv
    by_cases h0 : 0 ≤ t
    · have q0 : decide (0 ≤ t) = true := decide_eq_true h0
      by_cases h3 : t < 3
      · have q3 : decide (t < 3) = true := decide_eq_true h3
        go_enter Tryz.func63, Tryz.ntmps63
        go_wp2_with (go_at_call 80; refine (HR.out _ HW.out).mono ?_; rintro e w' ⟨rfl, rfl⟩)
        go_ret
        exact ⟨ret_bool (by rw [E.out, q0, q3]; rfl), (Below.refl _ _).alloc (Nat.le_refl _) _⟩
      · have q3 : decide (t < 3) = false := decide_eq_false h3
        go_enter Tryz.func63, Tryz.ntmps63
        go_wp2
        go_ret
        exact ⟨ret_bool (by rw [E.out, q0, q3]; simp), (Below.refl _ _).alloc (Nat.le_refl _) _⟩
    · have q0 : decide (0 ≤ t) = false := decide_eq_false h0
      go_enter Tryz.func63, Tryz.ntmps63
      go_wp2
      go_ret
      exact ⟨ret_bool (by rw [E.out, q0]; simp), (Below.refl _ _).alloc (Nat.le_refl _) _⟩
end Go.Proofs.YtkkjodjachbifaaGreatDoor
