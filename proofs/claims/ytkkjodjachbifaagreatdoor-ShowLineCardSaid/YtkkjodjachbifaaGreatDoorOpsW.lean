/-
  WHICH LINES ARE RIGHT: the kinds' own tests, and which kind a line is of, over any world that holds the registers.
-/
import Derived.Test.YtkkjodjachbifaaGreatDoorName
import Derived.Test.YtkkjodjachbifaaGreatDoorKit
import Derived.Test.YtkkjodjachbifaaGreatDoorMath
import Derived.Test.YtkkjodjachbifaaGreatDoorStrs
namespace Go.Proofs.YtkkjodjachbifaaGreatDoor
open Go.RowKit
set_option linter.unusedVariables false
set_option linter.unusedSimpArgs false
open WordM (L)

/-- A line as a value. -/
def lnv (op : Int) (r o b : ByteArray) (n : Int) : Value := .agg #[.int .i64 op, .string r, .string o, .string b, .int .i64 n]

set_option maxHeartbeats 1000000 in
set_option maxRecDepth 100000 in
theorem register_any (s : ByteArray) (w : World) (hr : Regs w) :
    Calls Tryz.prog 80 #[.string s] w fun e w' => e = .returned (.bool (OpsM.regB s.data.toList)) ∧ w = w' := by
  have HR := Lib.hid (fun W h => reg_any s W h)
  have HW := Lib.hid hr
  clear hr
  by_cases h : 0 ≤ WordM.regNo s.data.toList
  · have hb := Lib.hid (show OpsM.regB s.data.toList = true from decide_eq_true h)
    have h2 : decide (0 ≤ WordM.regNo s.data.toList) = true := decide_eq_true h
    generalize WordM.regNo s.data.toList = k at *
    go_enter Tryz.func80, Tryz.ntmps80
    go_wp2_with (go_at_call 89; refine (HR.out _ HW.out).mono ?_; rintro e w' ⟨rfl, rfl⟩)
    go_ret
    exact ⟨by rw [hb.out]; rfl, rfl⟩
  · have hb := Lib.hid (show OpsM.regB s.data.toList = false from decide_eq_false h)
    have h2 : decide (0 ≤ WordM.regNo s.data.toList) = false := decide_eq_false h
    generalize WordM.regNo s.data.toList = k at *
    go_enter Tryz.func80, Tryz.ntmps80
    go_wp2_with (go_at_call 89; refine (HR.out _ HW.out).mono ?_; rintro e w' ⟨rfl, rfl⟩)
    go_ret
    exact ⟨by rw [hb.out]; rfl, rfl⟩

theorem ret_bool {a b : Bool} (h : a = b) : Ending.returned (.bool a) = .returned (.bool b) := by rw [h]
theorem emp_of (s : ByteArray) : OpsM.emp s.data.toList = decide (s.toList = []) := by unfold OpsM.emp; rw [Lib.toList_data]

set_option maxHeartbeats 1000000 in
set_option maxRecDepth 100000 in
theorem wnum_any (op n : Int) (r o b : ByteArray) (w : World) (hr : Regs w) :
    Calls Tryz.prog 123 #[lnv op r o b n] w fun e w' => e = .returned (.bool (OpsM.okNum r.data.toList o.data.toList b.data.toList)) ∧ Below w.heap.size w w' := by
  have E := Lib.hid (show OpsM.okNum r.data.toList o.data.toList b.data.toList = (OpsM.regB r.data.toList && (OpsM.emp o.data.toList && OpsM.emp b.data.toList)) from rfl)
  have e1 := Lib.hid (emp_of r)
  have e2 := Lib.hid (emp_of o)
  have e3 := Lib.hid (emp_of b)
  have H0 := Lib.hid (fun W (h : Regs W) => register_any r W h)
  have HW := Lib.hid hr
  clear hr
  generalize OpsM.okNum r.data.toList o.data.toList b.data.toList = res at *
  generalize OpsM.regB r.data.toList = q0 at *
  cases q0
  all_goals
    unfold lnv
    go_enter Tryz.func123, Tryz.ntmps123
    go_wp2_with (first | (go_at_call 80; refine (H0.out _ (HW.out.below ((Below.refl _ _).alloc (Nat.le_refl _) _))).mono ?_; rintro e w' ⟨rfl, rfl⟩))
    all_goals
      go_ret
      exact ⟨ret_bool (by rw [E.out]; simp only [e2.out, e3.out]; simp [*]), (Below.refl _ _).alloc (Nat.le_refl _) _⟩

set_option maxHeartbeats 1000000 in
set_option maxRecDepth 100000 in
theorem wloc_any (op n : Int) (r o b : ByteArray) (w : World) (hr : Regs w) :
    Calls Tryz.prog 125 #[lnv op r o b n] w fun e w' => e = .returned (.bool (OpsM.okLoc r.data.toList o.data.toList b.data.toList n)) ∧ Below w.heap.size w w' := by
  have E := Lib.hid (show OpsM.okLoc r.data.toList o.data.toList b.data.toList n = (OpsM.regB r.data.toList && (WordM.nameB o.data.toList && (OpsM.emp b.data.toList && OpsM.nil0 n))) from rfl)
  have e1 := Lib.hid (emp_of r)
  have e2 := Lib.hid (emp_of o)
  have e3 := Lib.hid (emp_of b)
  have H0 := Lib.hid (fun W (h : Regs W) => register_any r W h)
  have H1 := Lib.hid (fun W (h : Regs W) => name_any o W h)
  have HW := Lib.hid hr
  clear hr
  generalize OpsM.okLoc r.data.toList o.data.toList b.data.toList n = res at *
  generalize OpsM.regB r.data.toList = q0 at *
  generalize WordM.nameB o.data.toList = q1 at *
  cases q0
  · clear H1
    unfold lnv
    go_enter Tryz.func125, Tryz.ntmps125
    go_wp2_with (first | (go_at_call 80; refine (H0.out _ (HW.out.below ((Below.refl _ _).alloc (Nat.le_refl _) _))).mono ?_; rintro e w' ⟨rfl, rfl⟩) | (go_at_call 79; refine (H1.out _ (HW.out.below ((Below.refl _ _).alloc (Nat.le_refl _) _))).mono ?_; rintro e w' ⟨rfl, rfl⟩))
    all_goals
      go_ret
      exact ⟨ret_bool (by rw [E.out]; simp only [e3.out, OpsM.nil0]; simp [*]), (Below.refl _ _).alloc (Nat.le_refl _) _⟩
  · cases q1
    all_goals
      unfold lnv
      go_enter Tryz.func125, Tryz.ntmps125
      go_wp2_with (first | (go_at_call 80; refine (H0.out _ (HW.out.below ((Below.refl _ _).alloc (Nat.le_refl _) _))).mono ?_; rintro e w' ⟨rfl, rfl⟩) | (go_at_call 79; refine (H1.out _ (HW.out.below ((Below.refl _ _).alloc (Nat.le_refl _) _))).mono ?_; rintro e w' ⟨rfl, rfl⟩))
      all_goals
        go_ret
        exact ⟨ret_bool (by rw [E.out]; simp only [e3.out, OpsM.nil0]; simp [*]), (Below.refl _ _).alloc (Nat.le_refl _) _⟩

set_option maxHeartbeats 1000000 in
set_option maxRecDepth 100000 in
theorem wlab_any (op n : Int) (r o b : ByteArray) (w : World) (hr : Regs w) :
    Calls Tryz.prog 135 #[lnv op r o b n] w fun e w' => e = .returned (.bool (OpsM.okLab r.data.toList o.data.toList b.data.toList n)) ∧ Below w.heap.size w w' := by
  have E := Lib.hid (show OpsM.okLab r.data.toList o.data.toList b.data.toList n = (WordM.nameB b.data.toList && (OpsM.emp r.data.toList && (OpsM.emp o.data.toList && OpsM.nil0 n))) from rfl)
  have e1 := Lib.hid (emp_of r)
  have e2 := Lib.hid (emp_of o)
  have e3 := Lib.hid (emp_of b)
  have H0 := Lib.hid (fun W (h : Regs W) => name_any b W h)
  have HW := Lib.hid hr
  clear hr
  generalize OpsM.okLab r.data.toList o.data.toList b.data.toList n = res at *
  generalize WordM.nameB b.data.toList = q0 at *
  cases q0
  all_goals
    unfold lnv
    go_enter Tryz.func135, Tryz.ntmps135
    go_wp2_with (first | (go_at_call 79; refine (H0.out _ (HW.out.below ((Below.refl _ _).alloc (Nat.le_refl _) _))).mono ?_; rintro e w' ⟨rfl, rfl⟩))
    all_goals
      go_ret
      exact ⟨ret_bool (by rw [E.out]; simp only [e1.out, e2.out, OpsM.nil0]; simp [*]), (Below.refl _ _).alloc (Nat.le_refl _) _⟩

set_option maxHeartbeats 1000000 in
set_option maxRecDepth 100000 in
theorem wput_any (op n : Int) (r o b : ByteArray) (w : World) (hr : Regs w) :
    Calls Tryz.prog 129 #[lnv op r o b n] w fun e w' => e = .returned (.bool (OpsM.okPut r.data.toList o.data.toList b.data.toList)) ∧ Below w.heap.size w w' := by
  have E := Lib.hid (show OpsM.okPut r.data.toList o.data.toList b.data.toList = (WordM.nameB o.data.toList && (OpsM.emp r.data.toList && OpsM.emp b.data.toList)) from rfl)
  have e1 := Lib.hid (emp_of r)
  have e2 := Lib.hid (emp_of o)
  have e3 := Lib.hid (emp_of b)
  have H0 := Lib.hid (fun W (h : Regs W) => name_any o W h)
  have HW := Lib.hid hr
  clear hr
  generalize OpsM.okPut r.data.toList o.data.toList b.data.toList = res at *
  generalize WordM.nameB o.data.toList = q0 at *
  cases q0
  all_goals
    unfold lnv
    go_enter Tryz.func129, Tryz.ntmps129
    go_wp2_with (first | (go_at_call 79; refine (H0.out _ (HW.out.below ((Below.refl _ _).alloc (Nat.le_refl _) _))).mono ?_; rintro e w' ⟨rfl, rfl⟩))
    all_goals
      go_ret
      exact ⟨ret_bool (by rw [E.out]; simp only [e1.out, e3.out]; simp [*]), (Below.refl _ _).alloc (Nat.le_refl _) _⟩

set_option maxHeartbeats 1000000 in
set_option maxRecDepth 100000 in
theorem wfen_any (op n : Int) (r o b : ByteArray) (w : World) (hr : Regs w) :
    Calls Tryz.prog 132 #[lnv op r o b n] w fun e w' => e = .returned (.bool (OpsM.okFen r.data.toList o.data.toList b.data.toList n)) ∧ Below w.heap.size w w' := by
  have E := Lib.hid (show OpsM.okFen r.data.toList o.data.toList b.data.toList n = (OpsM.emp r.data.toList && (OpsM.emp o.data.toList && (OpsM.emp b.data.toList && OpsM.nil0 n))) from rfl)
  have e1 := Lib.hid (emp_of r)
  have e2 := Lib.hid (emp_of o)
  have e3 := Lib.hid (emp_of b)
  have HW := Lib.hid hr
  clear hr
  generalize OpsM.okFen r.data.toList o.data.toList b.data.toList n = res at *
  unfold lnv
  go_enter Tryz.func132, Tryz.ntmps132
  go_wp2
  all_goals
    go_ret
    exact ⟨ret_bool (by rw [E.out]; simp only [e1.out, e2.out, e3.out, OpsM.nil0]; simp [*]), (Below.refl _ _).alloc (Nat.le_refl _) _⟩
end Go.Proofs.YtkkjodjachbifaaGreatDoor
