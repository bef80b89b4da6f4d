/-
  ops.Words, over any world that holds the registers.
-/
import Derived.Test.YtlfngcekbffngaaDoorOpsV
namespace Go.Proofs.YtlfngcekbffngaaDoor
open Go.RowKit
set_option linter.unusedVariables false
open WordM (L)

theorem methW1 (n : Int) (r o b : ByteArray) (W : World) : (method 219 70 (.agg #[.int .i64 1, .string r, .string o, .string b, .int .i64 n]) "fencepost/ops.words").run Tryd.prog W = .ok (88, .agg #[.int .i64 1, .string r, .string o, .string b, .int .i64 n]) W := by kernel_rfl
set_option maxHeartbeats 1000000 in
set_option maxRecDepth 100000 in
theorem lwords1 (n : Int) (r o b : ByteArray) (w : World) (hr : Regs w) (hn : NumM.inR n) (ho : o.size ≤ 100000) (hb : b.size ≤ 100000) :
    Calls Tryd.prog 19 #[lnv 1 r o b n] w (RetStrs (OpsM.words 1 r.data.toList o.data.toList b.data.toList n) w) := by
  have E := Lib.hid (show OpsM.words 1 r.data.toList o.data.toList b.data.toList n = if OpsM.okNum r.data.toList o.data.toList b.data.toList then [OpsM.kmov, r.data.toList, NumM.text n] else [] from rfl)
  have HW := Lib.hid hr
  have hm := meth1 n r o b
  have hm2 := methW1 n r o b
  have HR := Lib.hid (fun W h => wnum_any 1 n r o b W h)
  have HK := Lib.hid (fun W => kind1 n r o b W)
  have HS := Lib.hid (fun W => words1 n r o b W hn ho hb)
  clear hr
  rw [E.out]
  clear E
  generalize OpsM.okNum r.data.toList o.data.toList b.data.toList = res at *
  have HO := ho
  clear ho hb
  unfold lnv at *
  cases res
  · go_enter Tryd.func19, Tryd.ntmps19
    go_wp2_with fail
    refine (HK.out _).mono ?_
    rintro e w1 ⟨rfl, hB⟩
    go_wp2_with fail
    refine (HR.out _ ((HW.out.below ((Below.refl _ _).alloc (Nat.le_refl _) _)).below hB)).mono ?_
    rintro e w2 ⟨rfl, hB2⟩
    go_wp2
    go_ret
    exact ret_nil (((Below.refl _ _).alloc (Nat.le_refl _) _).trans ((chain hB hB2).mono (by simp)))
  · go_enter Tryd.func19, Tryd.ntmps19
    go_wp2_with fail
    refine (HK.out _).mono ?_
    rintro e w1 ⟨rfl, hB⟩
    go_wp2_with fail
    refine (HR.out _ ((HW.out.below ((Below.refl _ _).alloc (Nat.le_refl _) _)).below hB)).mono ?_
    rintro e w2 ⟨rfl, hB2⟩
    go_wp2_with fail
    refine (HS.out _).mono ?_
    rintro e w3 ⟨v, rfl, how, hB3⟩
    go_wp2
    go_ret
    exact ret_chain (((Below.refl _ _).alloc (Nat.le_refl _) _).trans ((chain hB hB2).mono (by simp))) ⟨_, rfl, how, hB3⟩
theorem methW2 (n : Int) (r o b : ByteArray) (W : World) : (method 219 73 (.agg #[.int .i64 2, .string r, .string o, .string b, .int .i64 n]) "fencepost/ops.words").run Tryd.prog W = .ok (90, .agg #[.int .i64 2, .string r, .string o, .string b, .int .i64 n]) W := by kernel_rfl
set_option maxHeartbeats 1000000 in
set_option maxRecDepth 100000 in
theorem lwords2 (n : Int) (r o b : ByteArray) (w : World) (hr : Regs w) (hn : NumM.inR n) (ho : o.size ≤ 100000) (hb : b.size ≤ 100000) :
    Calls Tryd.prog 19 #[lnv 2 r o b n] w (RetStrs (OpsM.words 2 r.data.toList o.data.toList b.data.toList n) w) := by
  have E := Lib.hid (show OpsM.words 2 r.data.toList o.data.toList b.data.toList n = if OpsM.okLoc r.data.toList o.data.toList b.data.toList n then [OpsM.kmov, r.data.toList, OpsM.brk o.data.toList] else [] from rfl)
  have HW := Lib.hid hr
  have hm := meth2 n r o b
  have hm2 := methW2 n r o b
  have HR := Lib.hid (fun W h => wloc_any 2 n r o b W h)
  have HK := Lib.hid (fun W => kind2 n r o b W)
  have HS := Lib.hid (fun W => words2 n r o b W hn ho hb)
  clear hr
  rw [E.out]
  clear E
  generalize OpsM.okLoc r.data.toList o.data.toList b.data.toList n = res at *
  have HO := ho
  clear ho hb
  unfold lnv at *
  cases res
  · go_enter Tryd.func19, Tryd.ntmps19
    go_wp2_with fail
    refine (HK.out _).mono ?_
    rintro e w1 ⟨rfl, hB⟩
    go_wp2_with fail
    refine (HR.out _ ((HW.out.below ((Below.refl _ _).alloc (Nat.le_refl _) _)).below hB)).mono ?_
    rintro e w2 ⟨rfl, hB2⟩
    go_wp2
    go_ret
    exact ret_nil (((Below.refl _ _).alloc (Nat.le_refl _) _).trans ((chain hB hB2).mono (by simp)))
  · go_enter Tryd.func19, Tryd.ntmps19
    go_wp2_with fail
    refine (HK.out _).mono ?_
    rintro e w1 ⟨rfl, hB⟩
    go_wp2_with fail
    refine (HR.out _ ((HW.out.below ((Below.refl _ _).alloc (Nat.le_refl _) _)).below hB)).mono ?_
    rintro e w2 ⟨rfl, hB2⟩
    go_wp2_with fail
    refine (HS.out _).mono ?_
    rintro e w3 ⟨v, rfl, how, hB3⟩
    go_wp2
    go_ret
    exact ret_chain (((Below.refl _ _).alloc (Nat.le_refl _) _).trans ((chain hB hB2).mono (by simp))) ⟨_, rfl, how, hB3⟩
theorem methW3 (n : Int) (r o b : ByteArray) (W : World) : (method 219 74 (.agg #[.int .i64 3, .string r, .string o, .string b, .int .i64 n]) "fencepost/ops.words").run Tryd.prog W = .ok (92, .agg #[.int .i64 3, .string r, .string o, .string b, .int .i64 n]) W := by kernel_rfl
set_option maxHeartbeats 1000000 in
set_option maxRecDepth 100000 in
theorem lwords3 (n : Int) (r o b : ByteArray) (w : World) (hr : Regs w) (hn : NumM.inR n) (ho : o.size ≤ 100000) (hb : b.size ≤ 100000) :
    Calls Tryd.prog 19 #[lnv 3 r o b n] w (RetStrs (OpsM.words 3 r.data.toList o.data.toList b.data.toList n) w) := by
  have E := Lib.hid (show OpsM.words 3 r.data.toList o.data.toList b.data.toList n = if OpsM.okLoc r.data.toList o.data.toList b.data.toList n then [OpsM.kmov, OpsM.brk o.data.toList, r.data.toList] else [] from rfl)
  have HW := Lib.hid hr
  have hm := meth3 n r o b
  have hm2 := methW3 n r o b
  have HR := Lib.hid (fun W h => wloc_any 3 n r o b W h)
  have HK := Lib.hid (fun W => kind3 n r o b W)
  have HS := Lib.hid (fun W => words3 n r o b W hn ho hb)
  clear hr
  rw [E.out]
  clear E
  generalize OpsM.okLoc r.data.toList o.data.toList b.data.toList n = res at *
  have HO := ho
  clear ho hb
  unfold lnv at *
  cases res
  · go_enter Tryd.func19, Tryd.ntmps19
    go_wp2_with fail
    refine (HK.out _).mono ?_
    rintro e w1 ⟨rfl, hB⟩
    go_wp2_with fail
    refine (HR.out _ ((HW.out.below ((Below.refl _ _).alloc (Nat.le_refl _) _)).below hB)).mono ?_
    rintro e w2 ⟨rfl, hB2⟩
    go_wp2
    go_ret
    exact ret_nil (((Below.refl _ _).alloc (Nat.le_refl _) _).trans ((chain hB hB2).mono (by simp)))
  · go_enter Tryd.func19, Tryd.ntmps19
    go_wp2_with fail
    refine (HK.out _).mono ?_
    rintro e w1 ⟨rfl, hB⟩
    go_wp2_with fail
    refine (HR.out _ ((HW.out.below ((Below.refl _ _).alloc (Nat.le_refl _) _)).below hB)).mono ?_
    rintro e w2 ⟨rfl, hB2⟩
    go_wp2_with fail
    refine (HS.out _).mono ?_
    rintro e w3 ⟨v, rfl, how, hB3⟩
    go_wp2
    go_ret
    exact ret_chain (((Below.refl _ _).alloc (Nat.le_refl _) _).trans ((chain hB hB2).mono (by simp))) ⟨_, rfl, how, hB3⟩
theorem methW4 (n : Int) (r o b : ByteArray) (W : World) : (method 219 75 (.agg #[.int .i64 4, .string r, .string o, .string b, .int .i64 n]) "fencepost/ops.words").run Tryd.prog W = .ok (94, .agg #[.int .i64 4, .string r, .string o, .string b, .int .i64 n]) W := by kernel_rfl
set_option maxHeartbeats 1000000 in
set_option maxRecDepth 100000 in
theorem lwords4 (n : Int) (r o b : ByteArray) (w : World) (hr : Regs w) (hn : NumM.inR n) (ho : o.size ≤ 100000) (hb : b.size ≤ 100000) :
    Calls Tryd.prog 19 #[lnv 4 r o b n] w (RetStrs (OpsM.words 4 r.data.toList o.data.toList b.data.toList n) w) := by
  have E := Lib.hid (show OpsM.words 4 r.data.toList o.data.toList b.data.toList n = if OpsM.okPut r.data.toList o.data.toList b.data.toList then [OpsM.kmov, OpsM.brk o.data.toList, NumM.text n] else [] from rfl)
  have HW := Lib.hid hr
  have hm := meth4 n r o b
  have hm2 := methW4 n r o b
  have HR := Lib.hid (fun W h => wput_any 4 n r o b W h)
  have HK := Lib.hid (fun W => kind4 n r o b W)
  have HS := Lib.hid (fun W => words4 n r o b W hn ho hb)
  clear hr
  rw [E.out]
  clear E
  generalize OpsM.okPut r.data.toList o.data.toList b.data.toList = res at *
  have HO := ho
  clear ho hb
  unfold lnv at *
  cases res
  · go_enter Tryd.func19, Tryd.ntmps19
    go_wp2_with fail
    refine (HK.out _).mono ?_
    rintro e w1 ⟨rfl, hB⟩
    go_wp2_with fail
    refine (HR.out _ ((HW.out.below ((Below.refl _ _).alloc (Nat.le_refl _) _)).below hB)).mono ?_
    rintro e w2 ⟨rfl, hB2⟩
    go_wp2
    go_ret
    exact ret_nil (((Below.refl _ _).alloc (Nat.le_refl _) _).trans ((chain hB hB2).mono (by simp)))
  · go_enter Tryd.func19, Tryd.ntmps19
    go_wp2_with fail
    refine (HK.out _).mono ?_
    rintro e w1 ⟨rfl, hB⟩
    go_wp2_with fail
    refine (HR.out _ ((HW.out.below ((Below.refl _ _).alloc (Nat.le_refl _) _)).below hB)).mono ?_
    rintro e w2 ⟨rfl, hB2⟩
    go_wp2_with fail
    refine (HS.out _).mono ?_
    rintro e w3 ⟨v, rfl, how, hB3⟩
    go_wp2
    go_ret
    exact ret_chain (((Below.refl _ _).alloc (Nat.le_refl _) _).trans ((chain hB hB2).mono (by simp))) ⟨_, rfl, how, hB3⟩
theorem methW5 (n : Int) (r o b : ByteArray) (W : World) : (method 219 76 (.agg #[.int .i64 5, .string r, .string o, .string b, .int .i64 n]) "fencepost/ops.words").run Tryd.prog W = .ok (95, .agg #[.int .i64 5, .string r, .string o, .string b, .int .i64 n]) W := by kernel_rfl
set_option maxHeartbeats 1000000 in
set_option maxRecDepth 100000 in
theorem lwords5 (n : Int) (r o b : ByteArray) (w : World) (hr : Regs w) (hn : NumM.inR n) (ho : o.size ≤ 100000) (hb : b.size ≤ 100000) :
    Calls Tryd.prog 19 #[lnv 5 r o b n] w (RetStrs (OpsM.words 5 r.data.toList o.data.toList b.data.toList n) w) := by
  have E := Lib.hid (show OpsM.words 5 r.data.toList o.data.toList b.data.toList n = if OpsM.okLoc r.data.toList o.data.toList b.data.toList n then [OpsM.kxchg, OpsM.brk o.data.toList, r.data.toList] else [] from rfl)
  have HW := Lib.hid hr
  have hm := meth5 n r o b
  have hm2 := methW5 n r o b
  have HR := Lib.hid (fun W h => wloc_any 5 n r o b W h)
  have HK := Lib.hid (fun W => kind5 n r o b W)
  have HS := Lib.hid (fun W => words5 n r o b W hn ho hb)
  clear hr
  rw [E.out]
  clear E
  generalize OpsM.okLoc r.data.toList o.data.toList b.data.toList n = res at *
  have HO := ho
  clear ho hb
  unfold lnv at *
  cases res
  · go_enter Tryd.func19, Tryd.ntmps19
    go_wp2_with fail
    refine (HK.out _).mono ?_
    rintro e w1 ⟨rfl, hB⟩
    go_wp2_with fail
    refine (HR.out _ ((HW.out.below ((Below.refl _ _).alloc (Nat.le_refl _) _)).below hB)).mono ?_
    rintro e w2 ⟨rfl, hB2⟩
    go_wp2
    go_ret
    exact ret_nil (((Below.refl _ _).alloc (Nat.le_refl _) _).trans ((chain hB hB2).mono (by simp)))
  · go_enter Tryd.func19, Tryd.ntmps19
    go_wp2_with fail
    refine (HK.out _).mono ?_
    rintro e w1 ⟨rfl, hB⟩
    go_wp2_with fail
    refine (HR.out _ ((HW.out.below ((Below.refl _ _).alloc (Nat.le_refl _) _)).below hB)).mono ?_
    rintro e w2 ⟨rfl, hB2⟩
    go_wp2_with fail
    refine (HS.out _).mono ?_
    rintro e w3 ⟨v, rfl, how, hB3⟩
    go_wp2
    go_ret
    exact ret_chain (((Below.refl _ _).alloc (Nat.le_refl _) _).trans ((chain hB hB2).mono (by simp))) ⟨_, rfl, how, hB3⟩
theorem methW6 (n : Int) (r o b : ByteArray) (W : World) : (method 219 77 (.agg #[.int .i64 6, .string r, .string o, .string b, .int .i64 n]) "fencepost/ops.words").run Tryd.prog W = .ok (97, .agg #[.int .i64 6, .string r, .string o, .string b, .int .i64 n]) W := by kernel_rfl
set_option maxHeartbeats 1000000 in
set_option maxRecDepth 100000 in
theorem lwords6 (n : Int) (r o b : ByteArray) (w : World) (hr : Regs w) (hn : NumM.inR n) (ho : o.size ≤ 100000) (hb : b.size ≤ 100000) :
    Calls Tryd.prog 19 #[lnv 6 r o b n] w (RetStrs (OpsM.words 6 r.data.toList o.data.toList b.data.toList n) w) := by
  have E := Lib.hid (show OpsM.words 6 r.data.toList o.data.toList b.data.toList n = if OpsM.okFen r.data.toList o.data.toList b.data.toList n then [OpsM.kmfence] else [] from rfl)
  have HW := Lib.hid hr
  have hm := meth6 n r o b
  have hm2 := methW6 n r o b
  have HR := Lib.hid (fun W h => wfen_any 6 n r o b W h)
  have HK := Lib.hid (fun W => kind6 n r o b W)
  have HS := Lib.hid (fun W => words6 n r o b W hn ho hb)
  clear hr
  rw [E.out]
  clear E
  generalize OpsM.okFen r.data.toList o.data.toList b.data.toList n = res at *
  have HO := ho
  clear ho hb
  unfold lnv at *
  cases res
  · go_enter Tryd.func19, Tryd.ntmps19
    go_wp2_with fail
    refine (HK.out _).mono ?_
    rintro e w1 ⟨rfl, hB⟩
    go_wp2_with fail
    refine (HR.out _ ((HW.out.below ((Below.refl _ _).alloc (Nat.le_refl _) _)).below hB)).mono ?_
    rintro e w2 ⟨rfl, hB2⟩
    go_wp2
    go_ret
    exact ret_nil (((Below.refl _ _).alloc (Nat.le_refl _) _).trans ((chain hB hB2).mono (by simp)))
  · go_enter Tryd.func19, Tryd.ntmps19
    go_wp2_with fail
    refine (HK.out _).mono ?_
    rintro e w1 ⟨rfl, hB⟩
    go_wp2_with fail
    refine (HR.out _ ((HW.out.below ((Below.refl _ _).alloc (Nat.le_refl _) _)).below hB)).mono ?_
    rintro e w2 ⟨rfl, hB2⟩
    go_wp2_with fail
    refine (HS.out _).mono ?_
    rintro e w3 ⟨v, rfl, how, hB3⟩
    go_wp2
    go_ret
    exact ret_chain (((Below.refl _ _).alloc (Nat.le_refl _) _).trans ((chain hB hB2).mono (by simp))) ⟨_, rfl, how, hB3⟩
theorem methW7 (n : Int) (r o b : ByteArray) (W : World) : (method 219 78 (.agg #[.int .i64 7, .string r, .string o, .string b, .int .i64 n]) "fencepost/ops.words").run Tryd.prog W = .ok (98, .agg #[.int .i64 7, .string r, .string o, .string b, .int .i64 n]) W := by kernel_rfl
set_option maxHeartbeats 1000000 in
set_option maxRecDepth 100000 in
theorem lwords7 (n : Int) (r o b : ByteArray) (w : World) (hr : Regs w) (hn : NumM.inR n) (ho : o.size ≤ 100000) (hb : b.size ≤ 100000) :
    Calls Tryd.prog 19 #[lnv 7 r o b n] w (RetStrs (OpsM.words 7 r.data.toList o.data.toList b.data.toList n) w) := by
  have E := Lib.hid (show OpsM.words 7 r.data.toList o.data.toList b.data.toList n = if OpsM.okNum r.data.toList o.data.toList b.data.toList then [OpsM.kcmp, r.data.toList, NumM.text n] else [] from rfl)
  have HW := Lib.hid hr
  have hm := meth7 n r o b
  have hm2 := methW7 n r o b
  have HR := Lib.hid (fun W h => wnum_any 7 n r o b W h)
  have HK := Lib.hid (fun W => kind7 n r o b W)
  have HS := Lib.hid (fun W => words7 n r o b W hn ho hb)
  clear hr
  rw [E.out]
  clear E
  generalize OpsM.okNum r.data.toList o.data.toList b.data.toList = res at *
  have HO := ho
  clear ho hb
  unfold lnv at *
  cases res
  · go_enter Tryd.func19, Tryd.ntmps19
    go_wp2_with fail
    refine (HK.out _).mono ?_
    rintro e w1 ⟨rfl, hB⟩
    go_wp2_with fail
    refine (HR.out _ ((HW.out.below ((Below.refl _ _).alloc (Nat.le_refl _) _)).below hB)).mono ?_
    rintro e w2 ⟨rfl, hB2⟩
    go_wp2
    go_ret
    exact ret_nil (((Below.refl _ _).alloc (Nat.le_refl _) _).trans ((chain hB hB2).mono (by simp)))
  · go_enter Tryd.func19, Tryd.ntmps19
    go_wp2_with fail
    refine (HK.out _).mono ?_
    rintro e w1 ⟨rfl, hB⟩
    go_wp2_with fail
    refine (HR.out _ ((HW.out.below ((Below.refl _ _).alloc (Nat.le_refl _) _)).below hB)).mono ?_
    rintro e w2 ⟨rfl, hB2⟩
    go_wp2_with fail
    refine (HS.out _).mono ?_
    rintro e w3 ⟨v, rfl, how, hB3⟩
    go_wp2
    go_ret
    exact ret_chain (((Below.refl _ _).alloc (Nat.le_refl _) _).trans ((chain hB hB2).mono (by simp))) ⟨_, rfl, how, hB3⟩
theorem methW8 (n : Int) (r o b : ByteArray) (W : World) : (method 219 81 (.agg #[.int .i64 8, .string r, .string o, .string b, .int .i64 n]) "fencepost/ops.words").run Tryd.prog W = .ok (100, .agg #[.int .i64 8, .string r, .string o, .string b, .int .i64 n]) W := by kernel_rfl
set_option maxHeartbeats 1000000 in
set_option maxRecDepth 100000 in
theorem lwords8 (n : Int) (r o b : ByteArray) (w : World) (hr : Regs w) (hn : NumM.inR n) (ho : o.size ≤ 100000) (hb : b.size ≤ 100000) :
    Calls Tryd.prog 19 #[lnv 8 r o b n] w (RetStrs (OpsM.words 8 r.data.toList o.data.toList b.data.toList n) w) := by
  have E := Lib.hid (show OpsM.words 8 r.data.toList o.data.toList b.data.toList n = if OpsM.okLab r.data.toList o.data.toList b.data.toList n then [OpsM.kjmp, b.data.toList] else [] from rfl)
  have HW := Lib.hid hr
  have hm := meth8 n r o b
  have hm2 := methW8 n r o b
  have HR := Lib.hid (fun W h => wlab_any 8 n r o b W h)
  have HK := Lib.hid (fun W => kind8 n r o b W)
  have HS := Lib.hid (fun W => words8 n r o b W hn ho hb)
  clear hr
  rw [E.out]
  clear E
  generalize OpsM.okLab r.data.toList o.data.toList b.data.toList n = res at *
  have HO := ho
  clear ho hb
  unfold lnv at *
  cases res
  · go_enter Tryd.func19, Tryd.ntmps19
    go_wp2_with fail
    refine (HK.out _).mono ?_
    rintro e w1 ⟨rfl, hB⟩
    go_wp2_with fail
    refine (HR.out _ ((HW.out.below ((Below.refl _ _).alloc (Nat.le_refl _) _)).below hB)).mono ?_
    rintro e w2 ⟨rfl, hB2⟩
    go_wp2
    go_ret
    exact ret_nil (((Below.refl _ _).alloc (Nat.le_refl _) _).trans ((chain hB hB2).mono (by simp)))
  · go_enter Tryd.func19, Tryd.ntmps19
    go_wp2_with fail
    refine (HK.out _).mono ?_
    rintro e w1 ⟨rfl, hB⟩
    go_wp2_with fail
    refine (HR.out _ ((HW.out.below ((Below.refl _ _).alloc (Nat.le_refl _) _)).below hB)).mono ?_
    rintro e w2 ⟨rfl, hB2⟩
    go_wp2_with fail
    refine (HS.out _).mono ?_
    rintro e w3 ⟨v, rfl, how, hB3⟩
    go_wp2
    go_ret
    exact ret_chain (((Below.refl _ _).alloc (Nat.le_refl _) _).trans ((chain hB hB2).mono (by simp))) ⟨_, rfl, how, hB3⟩
theorem methW9 (n : Int) (r o b : ByteArray) (W : World) : (method 219 82 (.agg #[.int .i64 9, .string r, .string o, .string b, .int .i64 n]) "fencepost/ops.words").run Tryd.prog W = .ok (101, .agg #[.int .i64 9, .string r, .string o, .string b, .int .i64 n]) W := by kernel_rfl
set_option maxHeartbeats 1000000 in
set_option maxRecDepth 100000 in
theorem lwords9 (n : Int) (r o b : ByteArray) (w : World) (hr : Regs w) (hn : NumM.inR n) (ho : o.size ≤ 100000) (hb : b.size ≤ 100000) :
    Calls Tryd.prog 19 #[lnv 9 r o b n] w (RetStrs (OpsM.words 9 r.data.toList o.data.toList b.data.toList n) w) := by
  have E := Lib.hid (show OpsM.words 9 r.data.toList o.data.toList b.data.toList n = if OpsM.okLab r.data.toList o.data.toList b.data.toList n then [OpsM.kje, b.data.toList] else [] from rfl)
  have HW := Lib.hid hr
  have hm := meth9 n r o b
  have hm2 := methW9 n r o b
  have HR := Lib.hid (fun W h => wlab_any 9 n r o b W h)
  have HK := Lib.hid (fun W => kind9 n r o b W)
  have HS := Lib.hid (fun W => words9 n r o b W hn ho hb)
  clear hr
  rw [E.out]
  clear E
  generalize OpsM.okLab r.data.toList o.data.toList b.data.toList n = res at *
  have HO := ho
  clear ho hb
  unfold lnv at *
  cases res
  · go_enter Tryd.func19, Tryd.ntmps19
    go_wp2_with fail
    refine (HK.out _).mono ?_
    rintro e w1 ⟨rfl, hB⟩
    go_wp2_with fail
    refine (HR.out _ ((HW.out.below ((Below.refl _ _).alloc (Nat.le_refl _) _)).below hB)).mono ?_
    rintro e w2 ⟨rfl, hB2⟩
    go_wp2
    go_ret
    exact ret_nil (((Below.refl _ _).alloc (Nat.le_refl _) _).trans ((chain hB hB2).mono (by simp)))
  · go_enter Tryd.func19, Tryd.ntmps19
    go_wp2_with fail
    refine (HK.out _).mono ?_
    rintro e w1 ⟨rfl, hB⟩
    go_wp2_with fail
    refine (HR.out _ ((HW.out.below ((Below.refl _ _).alloc (Nat.le_refl _) _)).below hB)).mono ?_
    rintro e w2 ⟨rfl, hB2⟩
    go_wp2_with fail
    refine (HS.out _).mono ?_
    rintro e w3 ⟨v, rfl, how, hB3⟩
    go_wp2
    go_ret
    exact ret_chain (((Below.refl _ _).alloc (Nat.le_refl _) _).trans ((chain hB hB2).mono (by simp))) ⟨_, rfl, how, hB3⟩
theorem methW10 (n : Int) (r o b : ByteArray) (W : World) : (method 219 83 (.agg #[.int .i64 10, .string r, .string o, .string b, .int .i64 n]) "fencepost/ops.words").run Tryd.prog W = .ok (102, .agg #[.int .i64 10, .string r, .string o, .string b, .int .i64 n]) W := by kernel_rfl
set_option maxHeartbeats 1000000 in
set_option maxRecDepth 100000 in
theorem lwords10 (n : Int) (r o b : ByteArray) (w : World) (hr : Regs w) (hn : NumM.inR n) (ho : o.size ≤ 100000) (hb : b.size ≤ 100000) :
    Calls Tryd.prog 19 #[lnv 10 r o b n] w (RetStrs (OpsM.words 10 r.data.toList o.data.toList b.data.toList n) w) := by
  have E := Lib.hid (show OpsM.words 10 r.data.toList o.data.toList b.data.toList n = if OpsM.okLab r.data.toList o.data.toList b.data.toList n then [OpsM.kjne, b.data.toList] else [] from rfl)
  have HW := Lib.hid hr
  have hm := meth10 n r o b
  have hm2 := methW10 n r o b
  have HR := Lib.hid (fun W h => wlab_any 10 n r o b W h)
  have HK := Lib.hid (fun W => kind10 n r o b W)
  have HS := Lib.hid (fun W => words10 n r o b W hn ho hb)
  clear hr
  rw [E.out]
  clear E
  generalize OpsM.okLab r.data.toList o.data.toList b.data.toList n = res at *
  have HO := ho
  clear ho hb
  unfold lnv at *
  cases res
  · go_enter Tryd.func19, Tryd.ntmps19
    go_wp2_with fail
    refine (HK.out _).mono ?_
    rintro e w1 ⟨rfl, hB⟩
    go_wp2_with fail
    refine (HR.out _ ((HW.out.below ((Below.refl _ _).alloc (Nat.le_refl _) _)).below hB)).mono ?_
    rintro e w2 ⟨rfl, hB2⟩
    go_wp2
    go_ret
    exact ret_nil (((Below.refl _ _).alloc (Nat.le_refl _) _).trans ((chain hB hB2).mono (by simp)))
  · go_enter Tryd.func19, Tryd.ntmps19
    go_wp2_with fail
    refine (HK.out _).mono ?_
    rintro e w1 ⟨rfl, hB⟩
    go_wp2_with fail
    refine (HR.out _ ((HW.out.below ((Below.refl _ _).alloc (Nat.le_refl _) _)).below hB)).mono ?_
    rintro e w2 ⟨rfl, hB2⟩
    go_wp2_with fail
    refine (HS.out _).mono ?_
    rintro e w3 ⟨v, rfl, how, hB3⟩
    go_wp2
    go_ret
    exact ret_chain (((Below.refl _ _).alloc (Nat.le_refl _) _).trans ((chain hB hB2).mono (by simp))) ⟨_, rfl, how, hB3⟩
theorem methW11 (n : Int) (r o b : ByteArray) (W : World) : (method 219 84 (.agg #[.int .i64 11, .string r, .string o, .string b, .int .i64 n]) "fencepost/ops.words").run Tryd.prog W = .ok (103, .agg #[.int .i64 11, .string r, .string o, .string b, .int .i64 n]) W := by kernel_rfl
set_option maxHeartbeats 1000000 in
set_option maxRecDepth 100000 in
theorem lwords11 (n : Int) (r o b : ByteArray) (w : World) (hr : Regs w) (hn : NumM.inR n) (ho : o.size ≤ 100000) (hb : b.size ≤ 100000) :
    Calls Tryd.prog 19 #[lnv 11 r o b n] w (RetStrs (OpsM.words 11 r.data.toList o.data.toList b.data.toList n) w) := by
  have E := Lib.hid (show OpsM.words 11 r.data.toList o.data.toList b.data.toList n = if OpsM.okLab r.data.toList o.data.toList b.data.toList n then [OpsM.col b.data.toList] else [] from rfl)
  have HW := Lib.hid hr
  have hm := meth11 n r o b
  have hm2 := methW11 n r o b
  have HR := Lib.hid (fun W h => wlab_any 11 n r o b W h)
  have HK := Lib.hid (fun W => kind11 n r o b W)
  have HS := Lib.hid (fun W => words11 n r o b W hn ho hb)
  clear hr
  rw [E.out]
  clear E
  generalize OpsM.okLab r.data.toList o.data.toList b.data.toList n = res at *
  have HO := ho
  clear ho hb
  unfold lnv at *
  cases res
  · go_enter Tryd.func19, Tryd.ntmps19
    go_wp2_with fail
    refine (HK.out _).mono ?_
    rintro e w1 ⟨rfl, hB⟩
    go_wp2_with fail
    refine (HR.out _ ((HW.out.below ((Below.refl _ _).alloc (Nat.le_refl _) _)).below hB)).mono ?_
    rintro e w2 ⟨rfl, hB2⟩
    go_wp2
    go_ret
    exact ret_nil (((Below.refl _ _).alloc (Nat.le_refl _) _).trans ((chain hB hB2).mono (by simp)))
  · go_enter Tryd.func19, Tryd.ntmps19
    go_wp2_with fail
    refine (HK.out _).mono ?_
    rintro e w1 ⟨rfl, hB⟩
    go_wp2_with fail
    refine (HR.out _ ((HW.out.below ((Below.refl _ _).alloc (Nat.le_refl _) _)).below hB)).mono ?_
    rintro e w2 ⟨rfl, hB2⟩
    go_wp2_with fail
    refine (HS.out _).mono ?_
    rintro e w3 ⟨v, rfl, how, hB3⟩
    go_wp2
    go_ret
    exact ret_chain (((Below.refl _ _).alloc (Nat.le_refl _) _).trans ((chain hB hB2).mono (by simp))) ⟨_, rfl, how, hB3⟩
set_option maxHeartbeats 1000000 in
set_option maxRecDepth 100000 in
theorem lwordsNo (op n : Int) (r o b : ByteArray) (w : World) (h1 : op ≠ 1) (h2 : op ≠ 2) (h3 : op ≠ 3) (h4 : op ≠ 4) (h5 : op ≠ 5) (h6 : op ≠ 6) (h7 : op ≠ 7) (h8 : op ≠ 8) (h9 : op ≠ 9) (h10 : op ≠ 10) (h11 : op ≠ 11) :
    Calls Tryd.prog 19 #[lnv op r o b n] w (RetStrs [] w) := by
  have HK := Lib.hid (fun W => kindNo op n r o b W h1 h2 h3 h4 h5 h6 h7 h8 h9 h10 h11)
  clear h1 h2 h3 h4 h5 h6 h7 h8 h9 h10 h11
  unfold lnv at *
  go_enter Tryd.func19, Tryd.ntmps19
  go_wp2_with fail
  refine (HK.out _).mono ?_
  rintro e w1 ⟨rfl, hB⟩
  go_wp2
  go_ret
  exact ret_nil (((Below.refl _ _).alloc (Nat.le_refl _) _).trans (hB.mono (by simp)))
theorem lwords_any (op n : Int) (r o b : ByteArray) (w : World) (hr : Regs w) (hn : NumM.inR n) (ho : o.size ≤ 100000) (hb : b.size ≤ 100000) :
    Calls Tryd.prog 19 #[lnv op r o b n] w (RetStrs (OpsM.words op r.data.toList o.data.toList b.data.toList n) w) := by
  by_cases h1 : op = 1
  · subst h1; exact lwords1 n r o b w hr hn ho hb
  by_cases h2 : op = 2
  · subst h2; exact lwords2 n r o b w hr hn ho hb
  by_cases h3 : op = 3
  · subst h3; exact lwords3 n r o b w hr hn ho hb
  by_cases h4 : op = 4
  · subst h4; exact lwords4 n r o b w hr hn ho hb
  by_cases h5 : op = 5
  · subst h5; exact lwords5 n r o b w hr hn ho hb
  by_cases h6 : op = 6
  · subst h6; exact lwords6 n r o b w hr hn ho hb
  by_cases h7 : op = 7
  · subst h7; exact lwords7 n r o b w hr hn ho hb
  by_cases h8 : op = 8
  · subst h8; exact lwords8 n r o b w hr hn ho hb
  by_cases h9 : op = 9
  · subst h9; exact lwords9 n r o b w hr hn ho hb
  by_cases h10 : op = 10
  · subst h10; exact lwords10 n r o b w hr hn ho hb
  by_cases h11 : op = 11
  · subst h11; exact lwords11 n r o b w hr hn ho hb
  have e : OpsM.words op r.data.toList o.data.toList b.data.toList n = [] := by unfold OpsM.words; rw [right_no op n _ _ _ h1 h2 h3 h4 h5 h6 h7 h8 h9 h10 h11]; rfl
  rw [e]
  exact lwordsNo op n r o b w h1 h2 h3 h4 h5 h6 h7 h8 h9 h10 h11
end Go.Proofs.YtlfngcekbffngaaDoor
