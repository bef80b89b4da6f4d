/-
  OF WHICH KIND A LINE IS, and whether it is right, over any world that holds the registers.
-/
import Derived.Test.YtaelfjphgdlbcaaGreatDoorNamOp
namespace Go.Proofs.YtaelfjphgdlbcaaGreatDoor
open Go.RowKit
set_option linter.unusedVariables false
open WordM (L)

set_option maxHeartbeats 1000000 in
set_option maxRecDepth 100000 in
theorem kind1 (n : Int) (r o b : ByteArray) (w : World) :
    Calls Tryz.prog 96 #[lnv 1 r o b n] w fun e w' => e = .returned (.tuple #[.iface 166 (lnv 1 r o b n), .bool true]) ∧ Below w.heap.size w w' := by
  unfold lnv
  go_enter Tryz.func96, Tryz.ntmps96
  go_wp2
  go_ret2
  exact ⟨rfl, (Below.refl _ _).alloc (Nat.le_refl _) _⟩
set_option maxHeartbeats 1000000 in
set_option maxRecDepth 100000 in
theorem kind2 (n : Int) (r o b : ByteArray) (w : World) :
    Calls Tryz.prog 96 #[lnv 2 r o b n] w fun e w' => e = .returned (.tuple #[.iface 169 (lnv 2 r o b n), .bool true]) ∧ Below w.heap.size w w' := by
  unfold lnv
  go_enter Tryz.func96, Tryz.ntmps96
  go_wp2
  go_ret2
  exact ⟨rfl, (Below.refl _ _).alloc (Nat.le_refl _) _⟩
set_option maxHeartbeats 1000000 in
set_option maxRecDepth 100000 in
theorem kind3 (n : Int) (r o b : ByteArray) (w : World) :
    Calls Tryz.prog 96 #[lnv 3 r o b n] w fun e w' => e = .returned (.tuple #[.iface 170 (lnv 3 r o b n), .bool true]) ∧ Below w.heap.size w w' := by
  unfold lnv
  go_enter Tryz.func96, Tryz.ntmps96
  go_wp2
  go_ret2
  exact ⟨rfl, (Below.refl _ _).alloc (Nat.le_refl _) _⟩
set_option maxHeartbeats 1000000 in
set_option maxRecDepth 100000 in
theorem kind4 (n : Int) (r o b : ByteArray) (w : World) :
    Calls Tryz.prog 96 #[lnv 4 r o b n] w fun e w' => e = .returned (.tuple #[.iface 171 (lnv 4 r o b n), .bool true]) ∧ Below w.heap.size w w' := by
  unfold lnv
  go_enter Tryz.func96, Tryz.ntmps96
  go_wp2
  go_ret2
  exact ⟨rfl, (Below.refl _ _).alloc (Nat.le_refl _) _⟩
set_option maxHeartbeats 1000000 in
set_option maxRecDepth 100000 in
theorem kind5 (n : Int) (r o b : ByteArray) (w : World) :
    Calls Tryz.prog 96 #[lnv 5 r o b n] w fun e w' => e = .returned (.tuple #[.iface 172 (lnv 5 r o b n), .bool true]) ∧ Below w.heap.size w w' := by
  unfold lnv
  go_enter Tryz.func96, Tryz.ntmps96
  go_wp2
  go_ret2
  exact ⟨rfl, (Below.refl _ _).alloc (Nat.le_refl _) _⟩
set_option maxHeartbeats 1000000 in
set_option maxRecDepth 100000 in
theorem kind6 (n : Int) (r o b : ByteArray) (w : World) :
    Calls Tryz.prog 96 #[lnv 6 r o b n] w fun e w' => e = .returned (.tuple #[.iface 173 (lnv 6 r o b n), .bool true]) ∧ Below w.heap.size w w' := by
  unfold lnv
  go_enter Tryz.func96, Tryz.ntmps96
  go_wp2
  go_ret2
  exact ⟨rfl, (Below.refl _ _).alloc (Nat.le_refl _) _⟩
set_option maxHeartbeats 1000000 in
set_option maxRecDepth 100000 in
theorem kind7 (n : Int) (r o b : ByteArray) (w : World) :
    Calls Tryz.prog 96 #[lnv 7 r o b n] w fun e w' => e = .returned (.tuple #[.iface 174 (lnv 7 r o b n), .bool true]) ∧ Below w.heap.size w w' := by
  unfold lnv
  go_enter Tryz.func96, Tryz.ntmps96
  go_wp2
  go_ret2
  exact ⟨rfl, (Below.refl _ _).alloc (Nat.le_refl _) _⟩
set_option maxHeartbeats 1000000 in
set_option maxRecDepth 100000 in
theorem kind8 (n : Int) (r o b : ByteArray) (w : World) :
    Calls Tryz.prog 96 #[lnv 8 r o b n] w fun e w' => e = .returned (.tuple #[.iface 177 (lnv 8 r o b n), .bool true]) ∧ Below w.heap.size w w' := by
  unfold lnv
  go_enter Tryz.func96, Tryz.ntmps96
  go_wp2
  go_ret2
  exact ⟨rfl, (Below.refl _ _).alloc (Nat.le_refl _) _⟩
set_option maxHeartbeats 1000000 in
set_option maxRecDepth 100000 in
theorem kind9 (n : Int) (r o b : ByteArray) (w : World) :
    Calls Tryz.prog 96 #[lnv 9 r o b n] w fun e w' => e = .returned (.tuple #[.iface 178 (lnv 9 r o b n), .bool true]) ∧ Below w.heap.size w w' := by
  unfold lnv
  go_enter Tryz.func96, Tryz.ntmps96
  go_wp2
  go_ret2
  exact ⟨rfl, (Below.refl _ _).alloc (Nat.le_refl _) _⟩
set_option maxHeartbeats 1000000 in
set_option maxRecDepth 100000 in
theorem kind10 (n : Int) (r o b : ByteArray) (w : World) :
    Calls Tryz.prog 96 #[lnv 10 r o b n] w fun e w' => e = .returned (.tuple #[.iface 179 (lnv 10 r o b n), .bool true]) ∧ Below w.heap.size w w' := by
  unfold lnv
  go_enter Tryz.func96, Tryz.ntmps96
  go_wp2
  go_ret2
  exact ⟨rfl, (Below.refl _ _).alloc (Nat.le_refl _) _⟩
set_option maxHeartbeats 1000000 in
set_option maxRecDepth 100000 in
theorem kind11 (n : Int) (r o b : ByteArray) (w : World) :
    Calls Tryz.prog 96 #[lnv 11 r o b n] w fun e w' => e = .returned (.tuple #[.iface 180 (lnv 11 r o b n), .bool true]) ∧ Below w.heap.size w w' := by
  unfold lnv
  go_enter Tryz.func96, Tryz.ntmps96
  go_wp2
  go_ret2
  exact ⟨rfl, (Below.refl _ _).alloc (Nat.le_refl _) _⟩
set_option maxHeartbeats 1000000 in
set_option maxRecDepth 100000 in
theorem kindNo (op n : Int) (r o b : ByteArray) (w : World) (h1 : op ≠ 1) (h2 : op ≠ 2) (h3 : op ≠ 3) (h4 : op ≠ 4) (h5 : op ≠ 5) (h6 : op ≠ 6) (h7 : op ≠ 7) (h8 : op ≠ 8) (h9 : op ≠ 9) (h10 : op ≠ 10) (h11 : op ≠ 11) :
    Calls Tryz.prog 96 #[lnv op r o b n] w fun e w' => e = .returned (.tuple #[.nilIface, .bool false]) ∧ Below w.heap.size w w' := by
  have g1 : (op == 1) = false := beq_eq_false_iff_ne.2 h1
  have g2 : (op == 2) = false := beq_eq_false_iff_ne.2 h2
  have g3 : (op == 3) = false := beq_eq_false_iff_ne.2 h3
  have g4 : (op == 4) = false := beq_eq_false_iff_ne.2 h4
  have g5 : (op == 5) = false := beq_eq_false_iff_ne.2 h5
  have g6 : (op == 6) = false := beq_eq_false_iff_ne.2 h6
  have g7 : (op == 7) = false := beq_eq_false_iff_ne.2 h7
  have g8 : (op == 8) = false := beq_eq_false_iff_ne.2 h8
  have g9 : (op == 9) = false := beq_eq_false_iff_ne.2 h9
  have g10 : (op == 10) = false := beq_eq_false_iff_ne.2 h10
  have g11 : (op == 11) = false := beq_eq_false_iff_ne.2 h11
  clear h1 h2 h3 h4 h5 h6 h7 h8 h9 h10 h11
  unfold lnv
  go_enter Tryz.func96, Tryz.ntmps96
  go_wp2
  go_ret2
  exact ⟨rfl, (Below.refl _ _).alloc (Nat.le_refl _) _⟩
theorem meth1 (n : Int) (r o b : ByteArray) (W : World) : (method 311 166 (.agg #[.int .i64 1, .string r, .string o, .string b, .int .i64 n]) "fencepost/ops.right").run Tryz.prog W = .ok (132, .agg #[.int .i64 1, .string r, .string o, .string b, .int .i64 n]) W := by kernel_rfl
set_option maxHeartbeats 1000000 in
set_option maxRecDepth 100000 in
theorem right1 (n : Int) (r o b : ByteArray) (w : World) (hr : Regs w) :
    Calls Tryz.prog 80 #[lnv 1 r o b n] w fun e w' => e = .returned (.bool (OpsM.right 1 r.data.toList o.data.toList b.data.toList n)) ∧ Below w.heap.size w w' := by
  have E := Lib.hid (show OpsM.right 1 r.data.toList o.data.toList b.data.toList n = OpsM.okNum r.data.toList o.data.toList b.data.toList from rfl)
  have HW := Lib.hid hr
  have hm := meth1 n r o b
  have HR := Lib.hid (fun W h => wnum_any 1 n r o b W h)
  have HK := Lib.hid (fun W => kind1 n r o b W)
  clear hr
  rw [E.out]
  clear E
  generalize OpsM.okNum r.data.toList o.data.toList b.data.toList = res at *
  unfold lnv at *
  go_enter Tryz.func80, Tryz.ntmps80
  go_wp2_with fail
  refine (HK.out _).mono ?_
  rintro e w1 ⟨rfl, hB⟩
  go_wp2_with fail
  refine (HR.out _ ((HW.out.below ((Below.refl _ _).alloc (Nat.le_refl _) _)).below hB)).mono ?_
  rintro e w2 ⟨rfl, hB2⟩
  go_wp2
  go_ret
  exact ⟨rfl, ((Below.refl _ _).alloc (Nat.le_refl _) _).trans ((chain hB hB2).mono (by simp))⟩
theorem meth2 (n : Int) (r o b : ByteArray) (W : World) : (method 311 169 (.agg #[.int .i64 2, .string r, .string o, .string b, .int .i64 n]) "fencepost/ops.right").run Tryz.prog W = .ok (134, .agg #[.int .i64 2, .string r, .string o, .string b, .int .i64 n]) W := by kernel_rfl
set_option maxHeartbeats 1000000 in
set_option maxRecDepth 100000 in
theorem right2 (n : Int) (r o b : ByteArray) (w : World) (hr : Regs w) :
    Calls Tryz.prog 80 #[lnv 2 r o b n] w fun e w' => e = .returned (.bool (OpsM.right 2 r.data.toList o.data.toList b.data.toList n)) ∧ Below w.heap.size w w' := by
  have E := Lib.hid (show OpsM.right 2 r.data.toList o.data.toList b.data.toList n = OpsM.okLoc r.data.toList o.data.toList b.data.toList n from rfl)
  have HW := Lib.hid hr
  have hm := meth2 n r o b
  have HR := Lib.hid (fun W h => wloc_any 2 n r o b W h)
  have HK := Lib.hid (fun W => kind2 n r o b W)
  clear hr
  rw [E.out]
  clear E
  generalize OpsM.okLoc r.data.toList o.data.toList b.data.toList n = res at *
  unfold lnv at *
  go_enter Tryz.func80, Tryz.ntmps80
  go_wp2_with fail
  refine (HK.out _).mono ?_
  rintro e w1 ⟨rfl, hB⟩
  go_wp2_with fail
  refine (HR.out _ ((HW.out.below ((Below.refl _ _).alloc (Nat.le_refl _) _)).below hB)).mono ?_
  rintro e w2 ⟨rfl, hB2⟩
  go_wp2
  go_ret
  exact ⟨rfl, ((Below.refl _ _).alloc (Nat.le_refl _) _).trans ((chain hB hB2).mono (by simp))⟩
theorem meth3 (n : Int) (r o b : ByteArray) (W : World) : (method 311 170 (.agg #[.int .i64 3, .string r, .string o, .string b, .int .i64 n]) "fencepost/ops.right").run Tryz.prog W = .ok (134, .agg #[.int .i64 3, .string r, .string o, .string b, .int .i64 n]) W := by kernel_rfl
set_option maxHeartbeats 1000000 in
set_option maxRecDepth 100000 in
theorem right3 (n : Int) (r o b : ByteArray) (w : World) (hr : Regs w) :
    Calls Tryz.prog 80 #[lnv 3 r o b n] w fun e w' => e = .returned (.bool (OpsM.right 3 r.data.toList o.data.toList b.data.toList n)) ∧ Below w.heap.size w w' := by
  have E := Lib.hid (show OpsM.right 3 r.data.toList o.data.toList b.data.toList n = OpsM.okLoc r.data.toList o.data.toList b.data.toList n from rfl)
  have HW := Lib.hid hr
  have hm := meth3 n r o b
  have HR := Lib.hid (fun W h => wloc_any 3 n r o b W h)
  have HK := Lib.hid (fun W => kind3 n r o b W)
  clear hr
  rw [E.out]
  clear E
  generalize OpsM.okLoc r.data.toList o.data.toList b.data.toList n = res at *
  unfold lnv at *
  go_enter Tryz.func80, Tryz.ntmps80
  go_wp2_with fail
  refine (HK.out _).mono ?_
  rintro e w1 ⟨rfl, hB⟩
  go_wp2_with fail
  refine (HR.out _ ((HW.out.below ((Below.refl _ _).alloc (Nat.le_refl _) _)).below hB)).mono ?_
  rintro e w2 ⟨rfl, hB2⟩
  go_wp2
  go_ret
  exact ⟨rfl, ((Below.refl _ _).alloc (Nat.le_refl _) _).trans ((chain hB hB2).mono (by simp))⟩
theorem meth4 (n : Int) (r o b : ByteArray) (W : World) : (method 311 171 (.agg #[.int .i64 4, .string r, .string o, .string b, .int .i64 n]) "fencepost/ops.right").run Tryz.prog W = .ok (137, .agg #[.int .i64 4, .string r, .string o, .string b, .int .i64 n]) W := by kernel_rfl
set_option maxHeartbeats 1000000 in
set_option maxRecDepth 100000 in
theorem right4 (n : Int) (r o b : ByteArray) (w : World) (hr : Regs w) :
    Calls Tryz.prog 80 #[lnv 4 r o b n] w fun e w' => e = .returned (.bool (OpsM.right 4 r.data.toList o.data.toList b.data.toList n)) ∧ Below w.heap.size w w' := by
  have E := Lib.hid (show OpsM.right 4 r.data.toList o.data.toList b.data.toList n = OpsM.okPut r.data.toList o.data.toList b.data.toList from rfl)
  have HW := Lib.hid hr
  have hm := meth4 n r o b
  have HR := Lib.hid (fun W h => wput_any 4 n r o b W h)
  have HK := Lib.hid (fun W => kind4 n r o b W)
  clear hr
  rw [E.out]
  clear E
  generalize OpsM.okPut r.data.toList o.data.toList b.data.toList = res at *
  unfold lnv at *
  go_enter Tryz.func80, Tryz.ntmps80
  go_wp2_with fail
  refine (HK.out _).mono ?_
  rintro e w1 ⟨rfl, hB⟩
  go_wp2_with fail
  refine (HR.out _ ((HW.out.below ((Below.refl _ _).alloc (Nat.le_refl _) _)).below hB)).mono ?_
  rintro e w2 ⟨rfl, hB2⟩
  go_wp2
  go_ret
  exact ⟨rfl, ((Below.refl _ _).alloc (Nat.le_refl _) _).trans ((chain hB hB2).mono (by simp))⟩
theorem meth5 (n : Int) (r o b : ByteArray) (W : World) : (method 311 172 (.agg #[.int .i64 5, .string r, .string o, .string b, .int .i64 n]) "fencepost/ops.right").run Tryz.prog W = .ok (134, .agg #[.int .i64 5, .string r, .string o, .string b, .int .i64 n]) W := by kernel_rfl
set_option maxHeartbeats 1000000 in
set_option maxRecDepth 100000 in
theorem right5 (n : Int) (r o b : ByteArray) (w : World) (hr : Regs w) :
    Calls Tryz.prog 80 #[lnv 5 r o b n] w fun e w' => e = .returned (.bool (OpsM.right 5 r.data.toList o.data.toList b.data.toList n)) ∧ Below w.heap.size w w' := by
  have E := Lib.hid (show OpsM.right 5 r.data.toList o.data.toList b.data.toList n = OpsM.okLoc r.data.toList o.data.toList b.data.toList n from rfl)
  have HW := Lib.hid hr
  have hm := meth5 n r o b
  have HR := Lib.hid (fun W h => wloc_any 5 n r o b W h)
  have HK := Lib.hid (fun W => kind5 n r o b W)
  clear hr
  rw [E.out]
  clear E
  generalize OpsM.okLoc r.data.toList o.data.toList b.data.toList n = res at *
  unfold lnv at *
  go_enter Tryz.func80, Tryz.ntmps80
  go_wp2_with fail
  refine (HK.out _).mono ?_
  rintro e w1 ⟨rfl, hB⟩
  go_wp2_with fail
  refine (HR.out _ ((HW.out.below ((Below.refl _ _).alloc (Nat.le_refl _) _)).below hB)).mono ?_
  rintro e w2 ⟨rfl, hB2⟩
  go_wp2
  go_ret
  exact ⟨rfl, ((Below.refl _ _).alloc (Nat.le_refl _) _).trans ((chain hB hB2).mono (by simp))⟩
theorem meth6 (n : Int) (r o b : ByteArray) (W : World) : (method 311 173 (.agg #[.int .i64 6, .string r, .string o, .string b, .int .i64 n]) "fencepost/ops.right").run Tryz.prog W = .ok (140, .agg #[.int .i64 6, .string r, .string o, .string b, .int .i64 n]) W := by kernel_rfl
set_option maxHeartbeats 1000000 in
set_option maxRecDepth 100000 in
theorem right6 (n : Int) (r o b : ByteArray) (w : World) (hr : Regs w) :
    Calls Tryz.prog 80 #[lnv 6 r o b n] w fun e w' => e = .returned (.bool (OpsM.right 6 r.data.toList o.data.toList b.data.toList n)) ∧ Below w.heap.size w w' := by
  have E := Lib.hid (show OpsM.right 6 r.data.toList o.data.toList b.data.toList n = OpsM.okFen r.data.toList o.data.toList b.data.toList n from rfl)
  have HW := Lib.hid hr
  have hm := meth6 n r o b
  have HR := Lib.hid (fun W h => wfen_any 6 n r o b W h)
  have HK := Lib.hid (fun W => kind6 n r o b W)
  clear hr
  rw [E.out]
  clear E
  generalize OpsM.okFen r.data.toList o.data.toList b.data.toList n = res at *
  unfold lnv at *
  go_enter Tryz.func80, Tryz.ntmps80
  go_wp2_with fail
  refine (HK.out _).mono ?_
  rintro e w1 ⟨rfl, hB⟩
  go_wp2_with fail
  refine (HR.out _ ((HW.out.below ((Below.refl _ _).alloc (Nat.le_refl _) _)).below hB)).mono ?_
  rintro e w2 ⟨rfl, hB2⟩
  go_wp2
  go_ret
  exact ⟨rfl, ((Below.refl _ _).alloc (Nat.le_refl _) _).trans ((chain hB hB2).mono (by simp))⟩
theorem meth7 (n : Int) (r o b : ByteArray) (W : World) : (method 311 174 (.agg #[.int .i64 7, .string r, .string o, .string b, .int .i64 n]) "fencepost/ops.right").run Tryz.prog W = .ok (132, .agg #[.int .i64 7, .string r, .string o, .string b, .int .i64 n]) W := by kernel_rfl
set_option maxHeartbeats 1000000 in
set_option maxRecDepth 100000 in
theorem right7 (n : Int) (r o b : ByteArray) (w : World) (hr : Regs w) :
    Calls Tryz.prog 80 #[lnv 7 r o b n] w fun e w' => e = .returned (.bool (OpsM.right 7 r.data.toList o.data.toList b.data.toList n)) ∧ Below w.heap.size w w' := by
  have E := Lib.hid (show OpsM.right 7 r.data.toList o.data.toList b.data.toList n = OpsM.okNum r.data.toList o.data.toList b.data.toList from rfl)
  have HW := Lib.hid hr
  have hm := meth7 n r o b
  have HR := Lib.hid (fun W h => wnum_any 7 n r o b W h)
  have HK := Lib.hid (fun W => kind7 n r o b W)
  clear hr
  rw [E.out]
  clear E
  generalize OpsM.okNum r.data.toList o.data.toList b.data.toList = res at *
  unfold lnv at *
  go_enter Tryz.func80, Tryz.ntmps80
  go_wp2_with fail
  refine (HK.out _).mono ?_
  rintro e w1 ⟨rfl, hB⟩
  go_wp2_with fail
  refine (HR.out _ ((HW.out.below ((Below.refl _ _).alloc (Nat.le_refl _) _)).below hB)).mono ?_
  rintro e w2 ⟨rfl, hB2⟩
  go_wp2
  go_ret
  exact ⟨rfl, ((Below.refl _ _).alloc (Nat.le_refl _) _).trans ((chain hB hB2).mono (by simp))⟩
theorem meth8 (n : Int) (r o b : ByteArray) (W : World) : (method 311 177 (.agg #[.int .i64 8, .string r, .string o, .string b, .int .i64 n]) "fencepost/ops.right").run Tryz.prog W = .ok (143, .agg #[.int .i64 8, .string r, .string o, .string b, .int .i64 n]) W := by kernel_rfl
set_option maxHeartbeats 1000000 in
set_option maxRecDepth 100000 in
theorem right8 (n : Int) (r o b : ByteArray) (w : World) (hr : Regs w) :
    Calls Tryz.prog 80 #[lnv 8 r o b n] w fun e w' => e = .returned (.bool (OpsM.right 8 r.data.toList o.data.toList b.data.toList n)) ∧ Below w.heap.size w w' := by
  have E := Lib.hid (show OpsM.right 8 r.data.toList o.data.toList b.data.toList n = OpsM.okLab r.data.toList o.data.toList b.data.toList n from rfl)
  have HW := Lib.hid hr
  have hm := meth8 n r o b
  have HR := Lib.hid (fun W h => wlab_any 8 n r o b W h)
  have HK := Lib.hid (fun W => kind8 n r o b W)
  clear hr
  rw [E.out]
  clear E
  generalize OpsM.okLab r.data.toList o.data.toList b.data.toList n = res at *
  unfold lnv at *
  go_enter Tryz.func80, Tryz.ntmps80
  go_wp2_with fail
  refine (HK.out _).mono ?_
  rintro e w1 ⟨rfl, hB⟩
  go_wp2_with fail
  refine (HR.out _ ((HW.out.below ((Below.refl _ _).alloc (Nat.le_refl _) _)).below hB)).mono ?_
  rintro e w2 ⟨rfl, hB2⟩
  go_wp2
  go_ret
  exact ⟨rfl, ((Below.refl _ _).alloc (Nat.le_refl _) _).trans ((chain hB hB2).mono (by simp))⟩
theorem meth9 (n : Int) (r o b : ByteArray) (W : World) : (method 311 178 (.agg #[.int .i64 9, .string r, .string o, .string b, .int .i64 n]) "fencepost/ops.right").run Tryz.prog W = .ok (143, .agg #[.int .i64 9, .string r, .string o, .string b, .int .i64 n]) W := by kernel_rfl
set_option maxHeartbeats 1000000 in
set_option maxRecDepth 100000 in
theorem right9 (n : Int) (r o b : ByteArray) (w : World) (hr : Regs w) :
    Calls Tryz.prog 80 #[lnv 9 r o b n] w fun e w' => e = .returned (.bool (OpsM.right 9 r.data.toList o.data.toList b.data.toList n)) ∧ Below w.heap.size w w' := by
  have E := Lib.hid (show OpsM.right 9 r.data.toList o.data.toList b.data.toList n = OpsM.okLab r.data.toList o.data.toList b.data.toList n from rfl)
  have HW := Lib.hid hr
  have hm := meth9 n r o b
  have HR := Lib.hid (fun W h => wlab_any 9 n r o b W h)
  have HK := Lib.hid (fun W => kind9 n r o b W)
  clear hr
  rw [E.out]
  clear E
  generalize OpsM.okLab r.data.toList o.data.toList b.data.toList n = res at *
  unfold lnv at *
  go_enter Tryz.func80, Tryz.ntmps80
  go_wp2_with fail
  refine (HK.out _).mono ?_
  rintro e w1 ⟨rfl, hB⟩
  go_wp2_with fail
  refine (HR.out _ ((HW.out.below ((Below.refl _ _).alloc (Nat.le_refl _) _)).below hB)).mono ?_
  rintro e w2 ⟨rfl, hB2⟩
  go_wp2
  go_ret
  exact ⟨rfl, ((Below.refl _ _).alloc (Nat.le_refl _) _).trans ((chain hB hB2).mono (by simp))⟩
theorem meth10 (n : Int) (r o b : ByteArray) (W : World) : (method 311 179 (.agg #[.int .i64 10, .string r, .string o, .string b, .int .i64 n]) "fencepost/ops.right").run Tryz.prog W = .ok (143, .agg #[.int .i64 10, .string r, .string o, .string b, .int .i64 n]) W := by kernel_rfl
set_option maxHeartbeats 1000000 in
set_option maxRecDepth 100000 in
theorem right10 (n : Int) (r o b : ByteArray) (w : World) (hr : Regs w) :
    Calls Tryz.prog 80 #[lnv 10 r o b n] w fun e w' => e = .returned (.bool (OpsM.right 10 r.data.toList o.data.toList b.data.toList n)) ∧ Below w.heap.size w w' := by
  have E := Lib.hid (show OpsM.right 10 r.data.toList o.data.toList b.data.toList n = OpsM.okLab r.data.toList o.data.toList b.data.toList n from rfl)
  have HW := Lib.hid hr
  have hm := meth10 n r o b
  have HR := Lib.hid (fun W h => wlab_any 10 n r o b W h)
  have HK := Lib.hid (fun W => kind10 n r o b W)
  clear hr
  rw [E.out]
  clear E
  generalize OpsM.okLab r.data.toList o.data.toList b.data.toList n = res at *
  unfold lnv at *
  go_enter Tryz.func80, Tryz.ntmps80
  go_wp2_with fail
  refine (HK.out _).mono ?_
  rintro e w1 ⟨rfl, hB⟩
  go_wp2_with fail
  refine (HR.out _ ((HW.out.below ((Below.refl _ _).alloc (Nat.le_refl _) _)).below hB)).mono ?_
  rintro e w2 ⟨rfl, hB2⟩
  go_wp2
  go_ret
  exact ⟨rfl, ((Below.refl _ _).alloc (Nat.le_refl _) _).trans ((chain hB hB2).mono (by simp))⟩
theorem meth11 (n : Int) (r o b : ByteArray) (W : World) : (method 311 180 (.agg #[.int .i64 11, .string r, .string o, .string b, .int .i64 n]) "fencepost/ops.right").run Tryz.prog W = .ok (143, .agg #[.int .i64 11, .string r, .string o, .string b, .int .i64 n]) W := by kernel_rfl
set_option maxHeartbeats 1000000 in
set_option maxRecDepth 100000 in
theorem right11 (n : Int) (r o b : ByteArray) (w : World) (hr : Regs w) :
    Calls Tryz.prog 80 #[lnv 11 r o b n] w fun e w' => e = .returned (.bool (OpsM.right 11 r.data.toList o.data.toList b.data.toList n)) ∧ Below w.heap.size w w' := by
  have E := Lib.hid (show OpsM.right 11 r.data.toList o.data.toList b.data.toList n = OpsM.okLab r.data.toList o.data.toList b.data.toList n from rfl)
  have HW := Lib.hid hr
  have hm := meth11 n r o b
  have HR := Lib.hid (fun W h => wlab_any 11 n r o b W h)
  have HK := Lib.hid (fun W => kind11 n r o b W)
  clear hr
  rw [E.out]
  clear E
  generalize OpsM.okLab r.data.toList o.data.toList b.data.toList n = res at *
  unfold lnv at *
  go_enter Tryz.func80, Tryz.ntmps80
  go_wp2_with fail
  refine (HK.out _).mono ?_
  rintro e w1 ⟨rfl, hB⟩
  go_wp2_with fail
  refine (HR.out _ ((HW.out.below ((Below.refl _ _).alloc (Nat.le_refl _) _)).below hB)).mono ?_
  rintro e w2 ⟨rfl, hB2⟩
  go_wp2
  go_ret
  exact ⟨rfl, ((Below.refl _ _).alloc (Nat.le_refl _) _).trans ((chain hB hB2).mono (by simp))⟩
set_option maxHeartbeats 1000000 in
set_option maxRecDepth 100000 in
theorem rightNo (op n : Int) (r o b : ByteArray) (w : World) (h1 : op ≠ 1) (h2 : op ≠ 2) (h3 : op ≠ 3) (h4 : op ≠ 4) (h5 : op ≠ 5) (h6 : op ≠ 6) (h7 : op ≠ 7) (h8 : op ≠ 8) (h9 : op ≠ 9) (h10 : op ≠ 10) (h11 : op ≠ 11) :
    Calls Tryz.prog 80 #[lnv op r o b n] w fun e w' => e = .returned (.bool false) ∧ Below w.heap.size w w' := by
  have HK := Lib.hid (fun W => kindNo op n r o b W h1 h2 h3 h4 h5 h6 h7 h8 h9 h10 h11)
  clear h1 h2 h3 h4 h5 h6 h7 h8 h9 h10 h11
  unfold lnv at *
  go_enter Tryz.func80, Tryz.ntmps80
  go_wp2_with fail
  refine (HK.out _).mono ?_
  rintro e w1 ⟨rfl, hB⟩
  go_wp2
  go_ret
  exact ⟨rfl, ((Below.refl _ _).alloc (Nat.le_refl _) _).trans (hB.mono (by simp))⟩
theorem right_no (op n : Int) (r o b : L) (h1 : op ≠ 1) (h2 : op ≠ 2) (h3 : op ≠ 3) (h4 : op ≠ 4) (h5 : op ≠ 5) (h6 : op ≠ 6) (h7 : op ≠ 7) (h8 : op ≠ 8) (h9 : op ≠ 9) (h10 : op ≠ 10) (h11 : op ≠ 11) : OpsM.right op r o b n = false := by simp [OpsM.right, h1, h2, h3, h4, h5, h6, h7, h8, h9, h10, h11]
theorem right_any (op n : Int) (r o b : ByteArray) (w : World) (hr : Regs w) :
    Calls Tryz.prog 80 #[lnv op r o b n] w fun e w' => e = .returned (.bool (OpsM.right op r.data.toList o.data.toList b.data.toList n)) ∧ Below w.heap.size w w' := by
  by_cases h1 : op = 1
  · subst h1; exact right1 n r o b w hr
  by_cases h2 : op = 2
  · subst h2; exact right2 n r o b w hr
  by_cases h3 : op = 3
  · subst h3; exact right3 n r o b w hr
  by_cases h4 : op = 4
  · subst h4; exact right4 n r o b w hr
  by_cases h5 : op = 5
  · subst h5; exact right5 n r o b w hr
  by_cases h6 : op = 6
  · subst h6; exact right6 n r o b w hr
  by_cases h7 : op = 7
  · subst h7; exact right7 n r o b w hr
  by_cases h8 : op = 8
  · subst h8; exact right8 n r o b w hr
  by_cases h9 : op = 9
  · subst h9; exact right9 n r o b w hr
  by_cases h10 : op = 10
  · subst h10; exact right10 n r o b w hr
  by_cases h11 : op = 11
  · subst h11; exact right11 n r o b w hr
  rw [right_no op n _ _ _ h1 h2 h3 h4 h5 h6 h7 h8 h9 h10 h11]
  exact rightNo op n r o b w h1 h2 h3 h4 h5 h6 h7 h8 h9 h10 h11
end Go.Proofs.YtaelfjphgdlbcaaGreatDoor
