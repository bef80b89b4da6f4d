/-
  ATOMS: the document's Asked and Word, over any world.
-/
import Derived.Test.YtclhgmopphhalaaGreatDoorAtomQ
import Derived.Test.YtclhgmopphhalaaGreatDoorRName
namespace Go.Proofs.YtclhgmopphhalaaGreatDoor
open Go.RowKit
set_option linter.unusedVariables false
set_option linter.unusedSimpArgs false
open WordM (L)

set_option maxHeartbeats 1000000 in
set_option maxRecDepth 100000 in
theorem rasked_any (t n : Int) (nm : ByteArray) (w : World) (hs : nm.size ≤ 100000) :
    Calls Tryz.prog 28 #[atv t nm n] w fun e w' => e = .returned (.bool (AtomM.asked t nm.data.toList)) ∧ Below w.heap.size w w' := by
  have HN := Lib.hid (fun W => rname_any nm W hs)
  have HR := Lib.hid (fun W => rreg_any nm W)
  clear hs
  by_cases h : t = -1
  · have E := Lib.hid (show AtomM.asked t nm.data.toList = WordM.nameB nm.data.toList by unfold AtomM.asked; rw [if_pos h])
    subst h
    unfold atv
    go_enter Tryz.func28, Tryz.ntmps28
    go_wp2_with (go_at_call 21; refine (HN.out _).mono ?_; rintro e w' ⟨rfl, hB⟩)
    go_ret
    exact ⟨by rw [E.out]; rfl, box_below hB⟩
  · have E := Lib.hid (show AtomM.asked t nm.data.toList = (decide (0 ≤ t) && (decide (t < 3) && OpsM.regB nm.data.toList)) by unfold AtomM.asked; rw [if_neg h])
    have h' : (t == -1) = false := beq_eq_false_iff_ne.2 h
    clear h
    generalize AtomM.asked t nm.data.toList = res at *
    have hsg : decide (0 ≤ WordM.regNo nm.data.toList) = OpsM.regB nm.data.toList := rfl
    generalize OpsM.regB nm.data.toList = rb at *
    generalize WordM.regNo nm.data.toList = rn at *
    unfold atv
    by_cases h0 : 0 ≤ t
    · have q0 : decide (0 ≤ t) = true := decide_eq_true h0
      by_cases h3 : t < 3
      · have q3 : decide (t < 3) = true := decide_eq_true h3
        cases rb
        all_goals
          go_enter Tryz.func28, Tryz.ntmps28
          go_wp2_with (go_at_call 34; refine (HR.out _).mono ?_; rintro e w' ⟨rfl, hB⟩)
          go_ret
          exact ⟨ret_bool (by rw [E.out, q0, q3]; rfl), box_below hB⟩
      · have q3 : decide (t < 3) = false := decide_eq_false h3
        go_enter Tryz.func28, Tryz.ntmps28
        go_wp2
        go_ret
        exact ⟨ret_bool (by rw [E.out, q0, q3]; simp), (Below.refl _ _).alloc (Nat.le_refl _) _⟩
    · have q0 : decide (0 ≤ t) = false := decide_eq_false h0
      go_enter Tryz.func28, Tryz.ntmps28
      go_wp2
      go_ret
      exact ⟨ret_bool (by rw [E.out, q0]; simp), (Below.refl _ _).alloc (Nat.le_refl _) _⟩
end Go.Proofs.YtclhgmopphhalaaGreatDoor
