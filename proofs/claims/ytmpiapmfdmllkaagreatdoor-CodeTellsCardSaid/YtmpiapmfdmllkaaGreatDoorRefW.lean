/-
  THE DOCUMENT's OWN ANSWER TO WHICH LINES ARE RIGHT, over any world.
-/
import Derived.Test.YtmpiapmfdmllkaaGreatDoorRName
import Derived.Test.YtmpiapmfdmllkaaGreatDoorNamOp
import Derived.Test.YtmpiapmfdmllkaaGreatDoorBase
namespace Go.Proofs.YtmpiapmfdmllkaaGreatDoor
open Go.RowKit
set_option linter.unusedVariables false
set_option linter.unusedSimpArgs false
open WordM (L)

theorem reg_sign (l : L) : decide (WordM.regNo l < 0) = !OpsM.regB l := by
  unfold OpsM.regB
  by_cases h : 0 ≤ WordM.regNo l
  · rw [decide_eq_true h, decide_eq_false (by omega)]; rfl
  · rw [decide_eq_false h, decide_eq_true (by omega)]; rfl
set_option maxHeartbeats 1000000 in
set_option maxRecDepth 100000 in
theorem has1 (w : World) : Calls Tryz.prog 90 #[.int .i64 1] w fun e w' => e = .returned (.tuple #[.bool true, .bool false, .bool false, .bool true]) ∧ w = w' := by
  go_enter Tryz.func90, Tryz.ntmps90
  go_wp2
  exact bodyPost_ret (v := .tuple #[.bool true, .bool false, .bool false, .bool true]) (by simp [results, Tryz.results90, go_sem]) rfl ⟨rfl, rfl⟩
set_option maxHeartbeats 1000000 in
set_option maxRecDepth 100000 in
theorem has2 (w : World) : Calls Tryz.prog 90 #[.int .i64 2] w fun e w' => e = .returned (.tuple #[.bool true, .bool true, .bool false, .bool false]) ∧ w = w' := by
  go_enter Tryz.func90, Tryz.ntmps90
  go_wp2
  exact bodyPost_ret (v := .tuple #[.bool true, .bool true, .bool false, .bool false]) (by simp [results, Tryz.results90, go_sem]) rfl ⟨rfl, rfl⟩
set_option maxHeartbeats 1000000 in
set_option maxRecDepth 100000 in
theorem has3 (w : World) : Calls Tryz.prog 90 #[.int .i64 3] w fun e w' => e = .returned (.tuple #[.bool true, .bool true, .bool false, .bool false]) ∧ w = w' := by
  go_enter Tryz.func90, Tryz.ntmps90
  go_wp2
  exact bodyPost_ret (v := .tuple #[.bool true, .bool true, .bool false, .bool false]) (by simp [results, Tryz.results90, go_sem]) rfl ⟨rfl, rfl⟩
set_option maxHeartbeats 1000000 in
set_option maxRecDepth 100000 in
theorem has4 (w : World) : Calls Tryz.prog 90 #[.int .i64 4] w fun e w' => e = .returned (.tuple #[.bool false, .bool true, .bool false, .bool true]) ∧ w = w' := by
  go_enter Tryz.func90, Tryz.ntmps90
  go_wp2
  exact bodyPost_ret (v := .tuple #[.bool false, .bool true, .bool false, .bool true]) (by simp [results, Tryz.results90, go_sem]) rfl ⟨rfl, rfl⟩
set_option maxHeartbeats 1000000 in
set_option maxRecDepth 100000 in
theorem has5 (w : World) : Calls Tryz.prog 90 #[.int .i64 5] w fun e w' => e = .returned (.tuple #[.bool true, .bool true, .bool false, .bool false]) ∧ w = w' := by
  go_enter Tryz.func90, Tryz.ntmps90
  go_wp2
  exact bodyPost_ret (v := .tuple #[.bool true, .bool true, .bool false, .bool false]) (by simp [results, Tryz.results90, go_sem]) rfl ⟨rfl, rfl⟩
set_option maxHeartbeats 1000000 in
set_option maxRecDepth 100000 in
theorem has6 (w : World) : Calls Tryz.prog 90 #[.int .i64 6] w fun e w' => e = .returned (.tuple #[.bool false, .bool false, .bool false, .bool false]) ∧ w = w' := by
  go_enter Tryz.func90, Tryz.ntmps90
  go_wp2
  exact bodyPost_ret (v := .tuple #[.bool false, .bool false, .bool false, .bool false]) (by simp [results, Tryz.results90, go_sem]) rfl ⟨rfl, rfl⟩
set_option maxHeartbeats 1000000 in
set_option maxRecDepth 100000 in
theorem has7 (w : World) : Calls Tryz.prog 90 #[.int .i64 7] w fun e w' => e = .returned (.tuple #[.bool true, .bool false, .bool false, .bool true]) ∧ w = w' := by
  go_enter Tryz.func90, Tryz.ntmps90
  go_wp2
  exact bodyPost_ret (v := .tuple #[.bool true, .bool false, .bool false, .bool true]) (by simp [results, Tryz.results90, go_sem]) rfl ⟨rfl, rfl⟩
set_option maxHeartbeats 1000000 in
set_option maxRecDepth 100000 in
theorem has8 (w : World) : Calls Tryz.prog 90 #[.int .i64 8] w fun e w' => e = .returned (.tuple #[.bool false, .bool false, .bool true, .bool false]) ∧ w = w' := by
  go_enter Tryz.func90, Tryz.ntmps90
  go_wp2
  exact bodyPost_ret (v := .tuple #[.bool false, .bool false, .bool true, .bool false]) (by simp [results, Tryz.results90, go_sem]) rfl ⟨rfl, rfl⟩
set_option maxHeartbeats 1000000 in
set_option maxRecDepth 100000 in
theorem has9 (w : World) : Calls Tryz.prog 90 #[.int .i64 9] w fun e w' => e = .returned (.tuple #[.bool false, .bool false, .bool true, .bool false]) ∧ w = w' := by
  go_enter Tryz.func90, Tryz.ntmps90
  go_wp2
  exact bodyPost_ret (v := .tuple #[.bool false, .bool false, .bool true, .bool false]) (by simp [results, Tryz.results90, go_sem]) rfl ⟨rfl, rfl⟩
set_option maxHeartbeats 1000000 in
set_option maxRecDepth 100000 in
theorem has10 (w : World) : Calls Tryz.prog 90 #[.int .i64 10] w fun e w' => e = .returned (.tuple #[.bool false, .bool false, .bool true, .bool false]) ∧ w = w' := by
  go_enter Tryz.func90, Tryz.ntmps90
  go_wp2
  exact bodyPost_ret (v := .tuple #[.bool false, .bool false, .bool true, .bool false]) (by simp [results, Tryz.results90, go_sem]) rfl ⟨rfl, rfl⟩
set_option maxHeartbeats 1000000 in
set_option maxRecDepth 100000 in
theorem has11 (w : World) : Calls Tryz.prog 90 #[.int .i64 11] w fun e w' => e = .returned (.tuple #[.bool false, .bool false, .bool true, .bool false]) ∧ w = w' := by
  go_enter Tryz.func90, Tryz.ntmps90
  go_wp2
  exact bodyPost_ret (v := .tuple #[.bool false, .bool false, .bool true, .bool false]) (by simp [results, Tryz.results90, go_sem]) rfl ⟨rfl, rfl⟩
set_option maxHeartbeats 1000000 in
set_option maxRecDepth 100000 in
theorem rright1 (n : Int) (r o b : ByteArray) (w : World) (hr : r.size ≤ 100000) (ho : o.size ≤ 100000) (hb : b.size ≤ 100000) :
    Calls Tryz.prog 75 #[lnv 1 r o b n] w fun e w' => e = .returned (.bool (OpsM.right 1 r.data.toList o.data.toList b.data.toList n)) ∧ Below w.heap.size w w' := by
  have E := Lib.hid (show OpsM.right 1 r.data.toList o.data.toList b.data.toList n = (OpsM.regB r.data.toList && (OpsM.emp o.data.toList && OpsM.emp b.data.toList)) from rfl)
  have e1 := Lib.hid (emp_of r)
  have e2 := Lib.hid (emp_of o)
  have e3 := Lib.hid (emp_of b)
  have HR := Lib.hid (fun W => rreg_any r W)
  have HO := Lib.hid (fun W => rname_any o W ho)
  have HB := Lib.hid (fun W => rname_any b W hb)
  have hs := reg_sign r.data.toList
  clear hr ho hb
  rw [E.out]
  clear E
  generalize OpsM.regB r.data.toList = q0 at *
  generalize WordM.regNo r.data.toList = rn at *
  unfold lnv
  cases q0
  · simp only [Bool.not_false] at hs
    go_enter Tryz.func75, Tryz.ntmps75
    go_wp2_with fail
    refine (has1 _).mono ?_
    rintro e w0 ⟨rfl, rfl⟩
    go_wp2_with fail
    refine (HR.out _).mono ?_
    rintro e w1 ⟨rfl, hB⟩
    obtain ⟨c0, _⟩ := kept_box (v := .int .i64 1) hB 0 rfl
    obtain ⟨c1, _⟩ := kept_box (v := .string r) hB 1 rfl
    obtain ⟨c2, _⟩ := kept_box (v := .string o) hB 2 rfl
    obtain ⟨c3, _⟩ := kept_box (v := .string b) hB 3 rfl
    obtain ⟨c4, _⟩ := kept_box (v := .int .i64 n) hB 4 rfl
    go_wp2
    all_goals
      go_ret
      exact ⟨ret_bool (by (try simp only [e1.out, e2.out, e3.out, OpsM.nil0]); simp [*]; try rfl), box_below hB⟩
  · simp only [Bool.not_true] at hs
    by_cases ho : o.toList = []
    · skip
      by_cases hb : b.toList = []
      · skip
        go_enter Tryz.func75, Tryz.ntmps75
        go_wp2_with fail
        refine (has1 _).mono ?_
        rintro e w0 ⟨rfl, rfl⟩
        go_wp2_with fail
        refine (HR.out _).mono ?_
        rintro e w1 ⟨rfl, hB⟩
        obtain ⟨c0, _⟩ := kept_box (v := .int .i64 1) hB 0 rfl
        obtain ⟨c1, _⟩ := kept_box (v := .string r) hB 1 rfl
        obtain ⟨c2, _⟩ := kept_box (v := .string o) hB 2 rfl
        obtain ⟨c3, _⟩ := kept_box (v := .string b) hB 3 rfl
        obtain ⟨c4, _⟩ := kept_box (v := .int .i64 n) hB 4 rfl
        go_wp2
        all_goals
          go_ret
          exact ⟨ret_bool (by (try simp only [e1.out, e2.out, e3.out, OpsM.nil0]); simp [*]; try rfl), box_below hB⟩
      · have mb : (b.toList == []) = false := by simpa using hb
        have kb : b.toList.isEmpty = false := by simpa using hb
        go_enter Tryz.func75, Tryz.ntmps75
        go_wp2_with fail
        refine (has1 _).mono ?_
        rintro e w0 ⟨rfl, rfl⟩
        go_wp2_with fail
        refine (HR.out _).mono ?_
        rintro e w1 ⟨rfl, hB⟩
        obtain ⟨c0, _⟩ := kept_box (v := .int .i64 1) hB 0 rfl
        obtain ⟨c1, _⟩ := kept_box (v := .string r) hB 1 rfl
        obtain ⟨c2, _⟩ := kept_box (v := .string o) hB 2 rfl
        obtain ⟨c3, _⟩ := kept_box (v := .string b) hB 3 rfl
        obtain ⟨c4, _⟩ := kept_box (v := .int .i64 n) hB 4 rfl
        go_wp2
        all_goals
          go_ret
          exact ⟨ret_bool (by (try simp only [e1.out, e2.out, e3.out, OpsM.nil0]); simp [*]; try rfl), box_below hB⟩
    · have mo : (o.toList == []) = false := by simpa using ho
      have ko : o.toList.isEmpty = false := by simpa using ho
      go_enter Tryz.func75, Tryz.ntmps75
      go_wp2_with fail
      refine (has1 _).mono ?_
      rintro e w0 ⟨rfl, rfl⟩
      go_wp2_with fail
      refine (HR.out _).mono ?_
      rintro e w1 ⟨rfl, hB⟩
      obtain ⟨c0, _⟩ := kept_box (v := .int .i64 1) hB 0 rfl
      obtain ⟨c1, _⟩ := kept_box (v := .string r) hB 1 rfl
      obtain ⟨c2, _⟩ := kept_box (v := .string o) hB 2 rfl
      obtain ⟨c3, _⟩ := kept_box (v := .string b) hB 3 rfl
      obtain ⟨c4, _⟩ := kept_box (v := .int .i64 n) hB 4 rfl
      go_wp2
      all_goals
        go_ret
        exact ⟨ret_bool (by (try simp only [e1.out, e2.out, e3.out, OpsM.nil0]); simp [*]; try rfl), box_below hB⟩
set_option maxHeartbeats 1000000 in
set_option maxRecDepth 100000 in
theorem rright2 (n : Int) (r o b : ByteArray) (w : World) (hr : r.size ≤ 100000) (ho : o.size ≤ 100000) (hb : b.size ≤ 100000) :
    Calls Tryz.prog 75 #[lnv 2 r o b n] w fun e w' => e = .returned (.bool (OpsM.right 2 r.data.toList o.data.toList b.data.toList n)) ∧ Below w.heap.size w w' := by
  have E := Lib.hid (show OpsM.right 2 r.data.toList o.data.toList b.data.toList n = (OpsM.regB r.data.toList && (WordM.nameB o.data.toList && (OpsM.emp b.data.toList && OpsM.nil0 n))) from rfl)
  have e1 := Lib.hid (emp_of r)
  have e2 := Lib.hid (emp_of o)
  have e3 := Lib.hid (emp_of b)
  have HR := Lib.hid (fun W => rreg_any r W)
  have HO := Lib.hid (fun W => rname_any o W ho)
  have HB := Lib.hid (fun W => rname_any b W hb)
  have hs := reg_sign r.data.toList
  clear hr ho hb
  rw [E.out]
  clear E
  generalize OpsM.regB r.data.toList = q0 at *
  generalize WordM.regNo r.data.toList = rn at *
  generalize WordM.nameB o.data.toList = q1 at *
  unfold lnv
  cases q0
  · simp only [Bool.not_false] at hs
    go_enter Tryz.func75, Tryz.ntmps75
    go_wp2_with fail
    refine (has2 _).mono ?_
    rintro e w0 ⟨rfl, rfl⟩
    go_wp2_with fail
    refine (HR.out _).mono ?_
    rintro e w1 ⟨rfl, hB⟩
    obtain ⟨c0, _⟩ := kept_box (v := .int .i64 2) hB 0 rfl
    obtain ⟨c1, _⟩ := kept_box (v := .string r) hB 1 rfl
    obtain ⟨c2, _⟩ := kept_box (v := .string o) hB 2 rfl
    obtain ⟨c3, _⟩ := kept_box (v := .string b) hB 3 rfl
    obtain ⟨c4, _⟩ := kept_box (v := .int .i64 n) hB 4 rfl
    go_wp2
    all_goals
      go_ret
      exact ⟨ret_bool (by (try simp only [e1.out, e2.out, e3.out, OpsM.nil0]); simp [*]; try rfl), box_below hB⟩
  · simp only [Bool.not_true] at hs
    cases q1
    · go_enter Tryz.func75, Tryz.ntmps75
      go_wp2_with fail
      refine (has2 _).mono ?_
      rintro e w0 ⟨rfl, rfl⟩
      go_wp2_with fail
      refine (HR.out _).mono ?_
      rintro e w1 ⟨rfl, hB⟩
      obtain ⟨c0, _⟩ := kept_box (v := .int .i64 2) hB 0 rfl
      obtain ⟨c1, _⟩ := kept_box (v := .string r) hB 1 rfl
      obtain ⟨c2, _⟩ := kept_box (v := .string o) hB 2 rfl
      obtain ⟨c3, _⟩ := kept_box (v := .string b) hB 3 rfl
      obtain ⟨c4, _⟩ := kept_box (v := .int .i64 n) hB 4 rfl
      go_wp2_with fail
      refine (HO.out _).mono ?_
      rintro e w2 ⟨rfl, hB'⟩
      replace hB := chain hB hB'
      clear hB'
      clear c0 c1 c2 c3 c4
      obtain ⟨c0, _⟩ := kept_box (v := .int .i64 2) hB 0 rfl
      obtain ⟨c1, _⟩ := kept_box (v := .string r) hB 1 rfl
      obtain ⟨c2, _⟩ := kept_box (v := .string o) hB 2 rfl
      obtain ⟨c3, _⟩ := kept_box (v := .string b) hB 3 rfl
      obtain ⟨c4, _⟩ := kept_box (v := .int .i64 n) hB 4 rfl
      go_wp2
      all_goals
        go_ret
        exact ⟨ret_bool (by (try simp only [e1.out, e2.out, e3.out, OpsM.nil0]); simp [*]; try rfl), box_below hB⟩
    · skip
      by_cases hb : b.toList = []
      · skip
        go_enter Tryz.func75, Tryz.ntmps75
        go_wp2_with fail
        refine (has2 _).mono ?_
        rintro e w0 ⟨rfl, rfl⟩
        go_wp2_with fail
        refine (HR.out _).mono ?_
        rintro e w1 ⟨rfl, hB⟩
        obtain ⟨c0, _⟩ := kept_box (v := .int .i64 2) hB 0 rfl
        obtain ⟨c1, _⟩ := kept_box (v := .string r) hB 1 rfl
        obtain ⟨c2, _⟩ := kept_box (v := .string o) hB 2 rfl
        obtain ⟨c3, _⟩ := kept_box (v := .string b) hB 3 rfl
        obtain ⟨c4, _⟩ := kept_box (v := .int .i64 n) hB 4 rfl
        go_wp2_with fail
        refine (HO.out _).mono ?_
        rintro e w2 ⟨rfl, hB'⟩
        replace hB := chain hB hB'
        clear hB'
        clear c0 c1 c2 c3 c4
        obtain ⟨c0, _⟩ := kept_box (v := .int .i64 2) hB 0 rfl
        obtain ⟨c1, _⟩ := kept_box (v := .string r) hB 1 rfl
        obtain ⟨c2, _⟩ := kept_box (v := .string o) hB 2 rfl
        obtain ⟨c3, _⟩ := kept_box (v := .string b) hB 3 rfl
        obtain ⟨c4, _⟩ := kept_box (v := .int .i64 n) hB 4 rfl
        go_wp2
        all_goals
          go_ret
          exact ⟨ret_bool (by (try simp only [e1.out, e2.out, e3.out, OpsM.nil0]); simp [*]; try rfl), box_below hB⟩
      · have mb : (b.toList == []) = false := by simpa using hb
        have kb : b.toList.isEmpty = false := by simpa using hb
        go_enter Tryz.func75, Tryz.ntmps75
        go_wp2_with fail
        refine (has2 _).mono ?_
        rintro e w0 ⟨rfl, rfl⟩
        go_wp2_with fail
        refine (HR.out _).mono ?_
        rintro e w1 ⟨rfl, hB⟩
        obtain ⟨c0, _⟩ := kept_box (v := .int .i64 2) hB 0 rfl
        obtain ⟨c1, _⟩ := kept_box (v := .string r) hB 1 rfl
        obtain ⟨c2, _⟩ := kept_box (v := .string o) hB 2 rfl
        obtain ⟨c3, _⟩ := kept_box (v := .string b) hB 3 rfl
        obtain ⟨c4, _⟩ := kept_box (v := .int .i64 n) hB 4 rfl
        go_wp2_with fail
        refine (HO.out _).mono ?_
        rintro e w2 ⟨rfl, hB'⟩
        replace hB := chain hB hB'
        clear hB'
        clear c0 c1 c2 c3 c4
        obtain ⟨c0, _⟩ := kept_box (v := .int .i64 2) hB 0 rfl
        obtain ⟨c1, _⟩ := kept_box (v := .string r) hB 1 rfl
        obtain ⟨c2, _⟩ := kept_box (v := .string o) hB 2 rfl
        obtain ⟨c3, _⟩ := kept_box (v := .string b) hB 3 rfl
        obtain ⟨c4, _⟩ := kept_box (v := .int .i64 n) hB 4 rfl
        go_wp2
        all_goals
          go_ret
          exact ⟨ret_bool (by (try simp only [e1.out, e2.out, e3.out, OpsM.nil0]); simp [*]; try rfl), box_below hB⟩
set_option maxHeartbeats 1000000 in
set_option maxRecDepth 100000 in
theorem rright3 (n : Int) (r o b : ByteArray) (w : World) (hr : r.size ≤ 100000) (ho : o.size ≤ 100000) (hb : b.size ≤ 100000) :
    Calls Tryz.prog 75 #[lnv 3 r o b n] w fun e w' => e = .returned (.bool (OpsM.right 3 r.data.toList o.data.toList b.data.toList n)) ∧ Below w.heap.size w w' := by
  have E := Lib.hid (show OpsM.right 3 r.data.toList o.data.toList b.data.toList n = (OpsM.regB r.data.toList && (WordM.nameB o.data.toList && (OpsM.emp b.data.toList && OpsM.nil0 n))) from rfl)
  have e1 := Lib.hid (emp_of r)
  have e2 := Lib.hid (emp_of o)
  have e3 := Lib.hid (emp_of b)
  have HR := Lib.hid (fun W => rreg_any r W)
  have HO := Lib.hid (fun W => rname_any o W ho)
  have HB := Lib.hid (fun W => rname_any b W hb)
  have hs := reg_sign r.data.toList
  clear hr ho hb
  rw [E.out]
  clear E
  generalize OpsM.regB r.data.toList = q0 at *
  generalize WordM.regNo r.data.toList = rn at *
  generalize WordM.nameB o.data.toList = q1 at *
  unfold lnv
  cases q0
  · simp only [Bool.not_false] at hs
    go_enter Tryz.func75, Tryz.ntmps75
    go_wp2_with fail
    refine (has3 _).mono ?_
    rintro e w0 ⟨rfl, rfl⟩
    go_wp2_with fail
    refine (HR.out _).mono ?_
    rintro e w1 ⟨rfl, hB⟩
    obtain ⟨c0, _⟩ := kept_box (v := .int .i64 3) hB 0 rfl
    obtain ⟨c1, _⟩ := kept_box (v := .string r) hB 1 rfl
    obtain ⟨c2, _⟩ := kept_box (v := .string o) hB 2 rfl
    obtain ⟨c3, _⟩ := kept_box (v := .string b) hB 3 rfl
    obtain ⟨c4, _⟩ := kept_box (v := .int .i64 n) hB 4 rfl
    go_wp2
    all_goals
      go_ret
      exact ⟨ret_bool (by (try simp only [e1.out, e2.out, e3.out, OpsM.nil0]); simp [*]; try rfl), box_below hB⟩
  · simp only [Bool.not_true] at hs
    cases q1
    · go_enter Tryz.func75, Tryz.ntmps75
      go_wp2_with fail
      refine (has3 _).mono ?_
      rintro e w0 ⟨rfl, rfl⟩
      go_wp2_with fail
      refine (HR.out _).mono ?_
      rintro e w1 ⟨rfl, hB⟩
      obtain ⟨c0, _⟩ := kept_box (v := .int .i64 3) hB 0 rfl
      obtain ⟨c1, _⟩ := kept_box (v := .string r) hB 1 rfl
      obtain ⟨c2, _⟩ := kept_box (v := .string o) hB 2 rfl
      obtain ⟨c3, _⟩ := kept_box (v := .string b) hB 3 rfl
      obtain ⟨c4, _⟩ := kept_box (v := .int .i64 n) hB 4 rfl
      go_wp2_with fail
      refine (HO.out _).mono ?_
      rintro e w2 ⟨rfl, hB'⟩
      replace hB := chain hB hB'
      clear hB'
      clear c0 c1 c2 c3 c4
      obtain ⟨c0, _⟩ := kept_box (v := .int .i64 3) hB 0 rfl
      obtain ⟨c1, _⟩ := kept_box (v := .string r) hB 1 rfl
      obtain ⟨c2, _⟩ := kept_box (v := .string o) hB 2 rfl
      obtain ⟨c3, _⟩ := kept_box (v := .string b) hB 3 rfl
      obtain ⟨c4, _⟩ := kept_box (v := .int .i64 n) hB 4 rfl
      go_wp2
      all_goals
        go_ret
        exact ⟨ret_bool (by (try simp only [e1.out, e2.out, e3.out, OpsM.nil0]); simp [*]; try rfl), box_below hB⟩
    · skip
      by_cases hb : b.toList = []
      · skip
        go_enter Tryz.func75, Tryz.ntmps75
        go_wp2_with fail
        refine (has3 _).mono ?_
        rintro e w0 ⟨rfl, rfl⟩
        go_wp2_with fail
        refine (HR.out _).mono ?_
        rintro e w1 ⟨rfl, hB⟩
        obtain ⟨c0, _⟩ := kept_box (v := .int .i64 3) hB 0 rfl
        obtain ⟨c1, _⟩ := kept_box (v := .string r) hB 1 rfl
        obtain ⟨c2, _⟩ := kept_box (v := .string o) hB 2 rfl
        obtain ⟨c3, _⟩ := kept_box (v := .string b) hB 3 rfl
        obtain ⟨c4, _⟩ := kept_box (v := .int .i64 n) hB 4 rfl
        go_wp2_with fail
        refine (HO.out _).mono ?_
        rintro e w2 ⟨rfl, hB'⟩
        replace hB := chain hB hB'
        clear hB'
        clear c0 c1 c2 c3 c4
        obtain ⟨c0, _⟩ := kept_box (v := .int .i64 3) hB 0 rfl
        obtain ⟨c1, _⟩ := kept_box (v := .string r) hB 1 rfl
        obtain ⟨c2, _⟩ := kept_box (v := .string o) hB 2 rfl
        obtain ⟨c3, _⟩ := kept_box (v := .string b) hB 3 rfl
        obtain ⟨c4, _⟩ := kept_box (v := .int .i64 n) hB 4 rfl
        go_wp2
        all_goals
          go_ret
          exact ⟨ret_bool (by (try simp only [e1.out, e2.out, e3.out, OpsM.nil0]); simp [*]; try rfl), box_below hB⟩
      · have mb : (b.toList == []) = false := by simpa using hb
        have kb : b.toList.isEmpty = false := by simpa using hb
        go_enter Tryz.func75, Tryz.ntmps75
        go_wp2_with fail
        refine (has3 _).mono ?_
        rintro e w0 ⟨rfl, rfl⟩
        go_wp2_with fail
        refine (HR.out _).mono ?_
        rintro e w1 ⟨rfl, hB⟩
        obtain ⟨c0, _⟩ := kept_box (v := .int .i64 3) hB 0 rfl
        obtain ⟨c1, _⟩ := kept_box (v := .string r) hB 1 rfl
        obtain ⟨c2, _⟩ := kept_box (v := .string o) hB 2 rfl
        obtain ⟨c3, _⟩ := kept_box (v := .string b) hB 3 rfl
        obtain ⟨c4, _⟩ := kept_box (v := .int .i64 n) hB 4 rfl
        go_wp2_with fail
        refine (HO.out _).mono ?_
        rintro e w2 ⟨rfl, hB'⟩
        replace hB := chain hB hB'
        clear hB'
        clear c0 c1 c2 c3 c4
        obtain ⟨c0, _⟩ := kept_box (v := .int .i64 3) hB 0 rfl
        obtain ⟨c1, _⟩ := kept_box (v := .string r) hB 1 rfl
        obtain ⟨c2, _⟩ := kept_box (v := .string o) hB 2 rfl
        obtain ⟨c3, _⟩ := kept_box (v := .string b) hB 3 rfl
        obtain ⟨c4, _⟩ := kept_box (v := .int .i64 n) hB 4 rfl
        go_wp2
        all_goals
          go_ret
          exact ⟨ret_bool (by (try simp only [e1.out, e2.out, e3.out, OpsM.nil0]); simp [*]; try rfl), box_below hB⟩
set_option maxHeartbeats 1000000 in
set_option maxRecDepth 100000 in
theorem rright4 (n : Int) (r o b : ByteArray) (w : World) (hr : r.size ≤ 100000) (ho : o.size ≤ 100000) (hb : b.size ≤ 100000) :
    Calls Tryz.prog 75 #[lnv 4 r o b n] w fun e w' => e = .returned (.bool (OpsM.right 4 r.data.toList o.data.toList b.data.toList n)) ∧ Below w.heap.size w w' := by
  have E := Lib.hid (show OpsM.right 4 r.data.toList o.data.toList b.data.toList n = (WordM.nameB o.data.toList && (OpsM.emp r.data.toList && OpsM.emp b.data.toList)) from rfl)
  have e1 := Lib.hid (emp_of r)
  have e2 := Lib.hid (emp_of o)
  have e3 := Lib.hid (emp_of b)
  have HR := Lib.hid (fun W => rreg_any r W)
  have HO := Lib.hid (fun W => rname_any o W ho)
  have HB := Lib.hid (fun W => rname_any b W hb)
  have hs := reg_sign r.data.toList
  clear hr ho hb
  rw [E.out]
  clear E
  generalize WordM.nameB o.data.toList = q1 at *
  unfold lnv
  clear hs
  by_cases hr : r.toList = []
  · skip
    cases q1
    · go_enter Tryz.func75, Tryz.ntmps75
      go_wp2_with fail
      refine (has4 _).mono ?_
      rintro e w0 ⟨rfl, rfl⟩
      go_wp2_with fail
      refine (HO.out _).mono ?_
      rintro e w1 ⟨rfl, hB⟩
      obtain ⟨c0, _⟩ := kept_box (v := .int .i64 4) hB 0 rfl
      obtain ⟨c1, _⟩ := kept_box (v := .string r) hB 1 rfl
      obtain ⟨c2, _⟩ := kept_box (v := .string o) hB 2 rfl
      obtain ⟨c3, _⟩ := kept_box (v := .string b) hB 3 rfl
      obtain ⟨c4, _⟩ := kept_box (v := .int .i64 n) hB 4 rfl
      go_wp2
      all_goals
        go_ret
        exact ⟨ret_bool (by (try simp only [e1.out, e2.out, e3.out, OpsM.nil0]); simp [*]; try rfl), box_below hB⟩
    · skip
      by_cases hb : b.toList = []
      · skip
        go_enter Tryz.func75, Tryz.ntmps75
        go_wp2_with fail
        refine (has4 _).mono ?_
        rintro e w0 ⟨rfl, rfl⟩
        go_wp2_with fail
        refine (HO.out _).mono ?_
        rintro e w1 ⟨rfl, hB⟩
        obtain ⟨c0, _⟩ := kept_box (v := .int .i64 4) hB 0 rfl
        obtain ⟨c1, _⟩ := kept_box (v := .string r) hB 1 rfl
        obtain ⟨c2, _⟩ := kept_box (v := .string o) hB 2 rfl
        obtain ⟨c3, _⟩ := kept_box (v := .string b) hB 3 rfl
        obtain ⟨c4, _⟩ := kept_box (v := .int .i64 n) hB 4 rfl
        go_wp2
        all_goals
          go_ret
          exact ⟨ret_bool (by (try simp only [e1.out, e2.out, e3.out, OpsM.nil0]); simp [*]; try rfl), box_below hB⟩
      · have mb : (b.toList == []) = false := by simpa using hb
        have kb : b.toList.isEmpty = false := by simpa using hb
        go_enter Tryz.func75, Tryz.ntmps75
        go_wp2_with fail
        refine (has4 _).mono ?_
        rintro e w0 ⟨rfl, rfl⟩
        go_wp2_with fail
        refine (HO.out _).mono ?_
        rintro e w1 ⟨rfl, hB⟩
        obtain ⟨c0, _⟩ := kept_box (v := .int .i64 4) hB 0 rfl
        obtain ⟨c1, _⟩ := kept_box (v := .string r) hB 1 rfl
        obtain ⟨c2, _⟩ := kept_box (v := .string o) hB 2 rfl
        obtain ⟨c3, _⟩ := kept_box (v := .string b) hB 3 rfl
        obtain ⟨c4, _⟩ := kept_box (v := .int .i64 n) hB 4 rfl
        go_wp2
        all_goals
          go_ret
          exact ⟨ret_bool (by (try simp only [e1.out, e2.out, e3.out, OpsM.nil0]); simp [*]; try rfl), box_below hB⟩
  · have mr : (r.toList == []) = false := by simpa using hr
    have kr : r.toList.isEmpty = false := by simpa using hr
    go_enter Tryz.func75, Tryz.ntmps75
    go_wp2_with fail
    refine (has4 _).mono ?_
    rintro e w0 ⟨rfl, rfl⟩
    go_wp2
    all_goals
      go_ret
      exact ⟨ret_bool (by (try simp only [e1.out, e2.out, e3.out, OpsM.nil0]); simp [*]; try rfl), (Below.refl _ _).alloc (Nat.le_refl _) _⟩
set_option maxHeartbeats 1000000 in
set_option maxRecDepth 100000 in
theorem rright5 (n : Int) (r o b : ByteArray) (w : World) (hr : r.size ≤ 100000) (ho : o.size ≤ 100000) (hb : b.size ≤ 100000) :
    Calls Tryz.prog 75 #[lnv 5 r o b n] w fun e w' => e = .returned (.bool (OpsM.right 5 r.data.toList o.data.toList b.data.toList n)) ∧ Below w.heap.size w w' := by
  have E := Lib.hid (show OpsM.right 5 r.data.toList o.data.toList b.data.toList n = (OpsM.regB r.data.toList && (WordM.nameB o.data.toList && (OpsM.emp b.data.toList && OpsM.nil0 n))) from rfl)
  have e1 := Lib.hid (emp_of r)
  have e2 := Lib.hid (emp_of o)
  have e3 := Lib.hid (emp_of b)
  have HR := Lib.hid (fun W => rreg_any r W)
  have HO := Lib.hid (fun W => rname_any o W ho)
  have HB := Lib.hid (fun W => rname_any b W hb)
  have hs := reg_sign r.data.toList
  clear hr ho hb
  rw [E.out]
  clear E
  generalize OpsM.regB r.data.toList = q0 at *
  generalize WordM.regNo r.data.toList = rn at *
  generalize WordM.nameB o.data.toList = q1 at *
  unfold lnv
  cases q0
  · simp only [Bool.not_false] at hs
    go_enter Tryz.func75, Tryz.ntmps75
    go_wp2_with fail
    refine (has5 _).mono ?_
    rintro e w0 ⟨rfl, rfl⟩
    go_wp2_with fail
    refine (HR.out _).mono ?_
    rintro e w1 ⟨rfl, hB⟩
    obtain ⟨c0, _⟩ := kept_box (v := .int .i64 5) hB 0 rfl
    obtain ⟨c1, _⟩ := kept_box (v := .string r) hB 1 rfl
    obtain ⟨c2, _⟩ := kept_box (v := .string o) hB 2 rfl
    obtain ⟨c3, _⟩ := kept_box (v := .string b) hB 3 rfl
    obtain ⟨c4, _⟩ := kept_box (v := .int .i64 n) hB 4 rfl
    go_wp2
    all_goals
      go_ret
      exact ⟨ret_bool (by (try simp only [e1.out, e2.out, e3.out, OpsM.nil0]); simp [*]; try rfl), box_below hB⟩
  · simp only [Bool.not_true] at hs
    cases q1
    · go_enter Tryz.func75, Tryz.ntmps75
      go_wp2_with fail
      refine (has5 _).mono ?_
      rintro e w0 ⟨rfl, rfl⟩
      go_wp2_with fail
      refine (HR.out _).mono ?_
      rintro e w1 ⟨rfl, hB⟩
      obtain ⟨c0, _⟩ := kept_box (v := .int .i64 5) hB 0 rfl
      obtain ⟨c1, _⟩ := kept_box (v := .string r) hB 1 rfl
      obtain ⟨c2, _⟩ := kept_box (v := .string o) hB 2 rfl
      obtain ⟨c3, _⟩ := kept_box (v := .string b) hB 3 rfl
      obtain ⟨c4, _⟩ := kept_box (v := .int .i64 n) hB 4 rfl
      go_wp2_with fail
      refine (HO.out _).mono ?_
      rintro e w2 ⟨rfl, hB'⟩
      replace hB := chain hB hB'
      clear hB'
      clear c0 c1 c2 c3 c4
      obtain ⟨c0, _⟩ := kept_box (v := .int .i64 5) hB 0 rfl
      obtain ⟨c1, _⟩ := kept_box (v := .string r) hB 1 rfl
      obtain ⟨c2, _⟩ := kept_box (v := .string o) hB 2 rfl
      obtain ⟨c3, _⟩ := kept_box (v := .string b) hB 3 rfl
      obtain ⟨c4, _⟩ := kept_box (v := .int .i64 n) hB 4 rfl
      go_wp2
      all_goals
        go_ret
        exact ⟨ret_bool (by (try simp only [e1.out, e2.out, e3.out, OpsM.nil0]); simp [*]; try rfl), box_below hB⟩
    · skip
      by_cases hb : b.toList = []
      · skip
        go_enter Tryz.func75, Tryz.ntmps75
        go_wp2_with fail
        refine (has5 _).mono ?_
        rintro e w0 ⟨rfl, rfl⟩
        go_wp2_with fail
        refine (HR.out _).mono ?_
        rintro e w1 ⟨rfl, hB⟩
        obtain ⟨c0, _⟩ := kept_box (v := .int .i64 5) hB 0 rfl
        obtain ⟨c1, _⟩ := kept_box (v := .string r) hB 1 rfl
        obtain ⟨c2, _⟩ := kept_box (v := .string o) hB 2 rfl
        obtain ⟨c3, _⟩ := kept_box (v := .string b) hB 3 rfl
        obtain ⟨c4, _⟩ := kept_box (v := .int .i64 n) hB 4 rfl
        go_wp2_with fail
        refine (HO.out _).mono ?_
        rintro e w2 ⟨rfl, hB'⟩
        replace hB := chain hB hB'
        clear hB'
        clear c0 c1 c2 c3 c4
        obtain ⟨c0, _⟩ := kept_box (v := .int .i64 5) hB 0 rfl
        obtain ⟨c1, _⟩ := kept_box (v := .string r) hB 1 rfl
        obtain ⟨c2, _⟩ := kept_box (v := .string o) hB 2 rfl
        obtain ⟨c3, _⟩ := kept_box (v := .string b) hB 3 rfl
        obtain ⟨c4, _⟩ := kept_box (v := .int .i64 n) hB 4 rfl
        go_wp2
        all_goals
          go_ret
          exact ⟨ret_bool (by (try simp only [e1.out, e2.out, e3.out, OpsM.nil0]); simp [*]; try rfl), box_below hB⟩
      · have mb : (b.toList == []) = false := by simpa using hb
        have kb : b.toList.isEmpty = false := by simpa using hb
        go_enter Tryz.func75, Tryz.ntmps75
        go_wp2_with fail
        refine (has5 _).mono ?_
        rintro e w0 ⟨rfl, rfl⟩
        go_wp2_with fail
        refine (HR.out _).mono ?_
        rintro e w1 ⟨rfl, hB⟩
        obtain ⟨c0, _⟩ := kept_box (v := .int .i64 5) hB 0 rfl
        obtain ⟨c1, _⟩ := kept_box (v := .string r) hB 1 rfl
        obtain ⟨c2, _⟩ := kept_box (v := .string o) hB 2 rfl
        obtain ⟨c3, _⟩ := kept_box (v := .string b) hB 3 rfl
        obtain ⟨c4, _⟩ := kept_box (v := .int .i64 n) hB 4 rfl
        go_wp2_with fail
        refine (HO.out _).mono ?_
        rintro e w2 ⟨rfl, hB'⟩
        replace hB := chain hB hB'
        clear hB'
        clear c0 c1 c2 c3 c4
        obtain ⟨c0, _⟩ := kept_box (v := .int .i64 5) hB 0 rfl
        obtain ⟨c1, _⟩ := kept_box (v := .string r) hB 1 rfl
        obtain ⟨c2, _⟩ := kept_box (v := .string o) hB 2 rfl
        obtain ⟨c3, _⟩ := kept_box (v := .string b) hB 3 rfl
        obtain ⟨c4, _⟩ := kept_box (v := .int .i64 n) hB 4 rfl
        go_wp2
        all_goals
          go_ret
          exact ⟨ret_bool (by (try simp only [e1.out, e2.out, e3.out, OpsM.nil0]); simp [*]; try rfl), box_below hB⟩
set_option maxHeartbeats 1000000 in
set_option maxRecDepth 100000 in
theorem rright6 (n : Int) (r o b : ByteArray) (w : World) (hr : r.size ≤ 100000) (ho : o.size ≤ 100000) (hb : b.size ≤ 100000) :
    Calls Tryz.prog 75 #[lnv 6 r o b n] w fun e w' => e = .returned (.bool (OpsM.right 6 r.data.toList o.data.toList b.data.toList n)) ∧ Below w.heap.size w w' := by
  have E := Lib.hid (show OpsM.right 6 r.data.toList o.data.toList b.data.toList n = (OpsM.emp r.data.toList && (OpsM.emp o.data.toList && (OpsM.emp b.data.toList && OpsM.nil0 n))) from rfl)
  have e1 := Lib.hid (emp_of r)
  have e2 := Lib.hid (emp_of o)
  have e3 := Lib.hid (emp_of b)
  have HR := Lib.hid (fun W => rreg_any r W)
  have HO := Lib.hid (fun W => rname_any o W ho)
  have HB := Lib.hid (fun W => rname_any b W hb)
  have hs := reg_sign r.data.toList
  clear hr ho hb
  rw [E.out]
  clear E
  unfold lnv
  clear hs
  by_cases hr : r.toList = []
  · skip
    by_cases ho : o.toList = []
    · skip
      by_cases hb : b.toList = []
      · skip
        go_enter Tryz.func75, Tryz.ntmps75
        go_wp2_with fail
        refine (has6 _).mono ?_
        rintro e w0 ⟨rfl, rfl⟩
        go_wp2
        all_goals
          go_ret
          exact ⟨ret_bool (by (try simp only [e1.out, e2.out, e3.out, OpsM.nil0]); simp [*]; try rfl), (Below.refl _ _).alloc (Nat.le_refl _) _⟩
      · have mb : (b.toList == []) = false := by simpa using hb
        have kb : b.toList.isEmpty = false := by simpa using hb
        go_enter Tryz.func75, Tryz.ntmps75
        go_wp2_with fail
        refine (has6 _).mono ?_
        rintro e w0 ⟨rfl, rfl⟩
        go_wp2
        all_goals
          go_ret
          exact ⟨ret_bool (by (try simp only [e1.out, e2.out, e3.out, OpsM.nil0]); simp [*]; try rfl), (Below.refl _ _).alloc (Nat.le_refl _) _⟩
    · have mo : (o.toList == []) = false := by simpa using ho
      have ko : o.toList.isEmpty = false := by simpa using ho
      go_enter Tryz.func75, Tryz.ntmps75
      go_wp2_with fail
      refine (has6 _).mono ?_
      rintro e w0 ⟨rfl, rfl⟩
      go_wp2
      all_goals
        go_ret
        exact ⟨ret_bool (by (try simp only [e1.out, e2.out, e3.out, OpsM.nil0]); simp [*]; try rfl), (Below.refl _ _).alloc (Nat.le_refl _) _⟩
  · have mr : (r.toList == []) = false := by simpa using hr
    have kr : r.toList.isEmpty = false := by simpa using hr
    go_enter Tryz.func75, Tryz.ntmps75
    go_wp2_with fail
    refine (has6 _).mono ?_
    rintro e w0 ⟨rfl, rfl⟩
    go_wp2
    all_goals
      go_ret
      exact ⟨ret_bool (by (try simp only [e1.out, e2.out, e3.out, OpsM.nil0]); simp [*]; try rfl), (Below.refl _ _).alloc (Nat.le_refl _) _⟩
set_option maxHeartbeats 1000000 in
set_option maxRecDepth 100000 in
theorem rright7 (n : Int) (r o b : ByteArray) (w : World) (hr : r.size ≤ 100000) (ho : o.size ≤ 100000) (hb : b.size ≤ 100000) :
    Calls Tryz.prog 75 #[lnv 7 r o b n] w fun e w' => e = .returned (.bool (OpsM.right 7 r.data.toList o.data.toList b.data.toList n)) ∧ Below w.heap.size w w' := by
  have E := Lib.hid (show OpsM.right 7 r.data.toList o.data.toList b.data.toList n = (OpsM.regB r.data.toList && (OpsM.emp o.data.toList && OpsM.emp b.data.toList)) from rfl)
  have e1 := Lib.hid (emp_of r)
  have e2 := Lib.hid (emp_of o)
  have e3 := Lib.hid (emp_of b)
  have HR := Lib.hid (fun W => rreg_any r W)
  have HO := Lib.hid (fun W => rname_any o W ho)
  have HB := Lib.hid (fun W => rname_any b W hb)
  have hs := reg_sign r.data.toList
  clear hr ho hb
  rw [E.out]
  clear E
  generalize OpsM.regB r.data.toList = q0 at *
  generalize WordM.regNo r.data.toList = rn at *
  unfold lnv
  cases q0
  · simp only [Bool.not_false] at hs
    go_enter Tryz.func75, Tryz.ntmps75
    go_wp2_with fail
    refine (has7 _).mono ?_
    rintro e w0 ⟨rfl, rfl⟩
    go_wp2_with fail
    refine (HR.out _).mono ?_
    rintro e w1 ⟨rfl, hB⟩
    obtain ⟨c0, _⟩ := kept_box (v := .int .i64 7) hB 0 rfl
    obtain ⟨c1, _⟩ := kept_box (v := .string r) hB 1 rfl
    obtain ⟨c2, _⟩ := kept_box (v := .string o) hB 2 rfl
    obtain ⟨c3, _⟩ := kept_box (v := .string b) hB 3 rfl
    obtain ⟨c4, _⟩ := kept_box (v := .int .i64 n) hB 4 rfl
    go_wp2
    all_goals
      go_ret
      exact ⟨ret_bool (by (try simp only [e1.out, e2.out, e3.out, OpsM.nil0]); simp [*]; try rfl), box_below hB⟩
  · simp only [Bool.not_true] at hs
    by_cases ho : o.toList = []
    · skip
      by_cases hb : b.toList = []
      · skip
        go_enter Tryz.func75, Tryz.ntmps75
        go_wp2_with fail
        refine (has7 _).mono ?_
        rintro e w0 ⟨rfl, rfl⟩
        go_wp2_with fail
        refine (HR.out _).mono ?_
        rintro e w1 ⟨rfl, hB⟩
        obtain ⟨c0, _⟩ := kept_box (v := .int .i64 7) hB 0 rfl
        obtain ⟨c1, _⟩ := kept_box (v := .string r) hB 1 rfl
        obtain ⟨c2, _⟩ := kept_box (v := .string o) hB 2 rfl
        obtain ⟨c3, _⟩ := kept_box (v := .string b) hB 3 rfl
        obtain ⟨c4, _⟩ := kept_box (v := .int .i64 n) hB 4 rfl
        go_wp2
        all_goals
          go_ret
          exact ⟨ret_bool (by (try simp only [e1.out, e2.out, e3.out, OpsM.nil0]); simp [*]; try rfl), box_below hB⟩
      · have mb : (b.toList == []) = false := by simpa using hb
        have kb : b.toList.isEmpty = false := by simpa using hb
        go_enter Tryz.func75, Tryz.ntmps75
        go_wp2_with fail
        refine (has7 _).mono ?_
        rintro e w0 ⟨rfl, rfl⟩
        go_wp2_with fail
        refine (HR.out _).mono ?_
        rintro e w1 ⟨rfl, hB⟩
        obtain ⟨c0, _⟩ := kept_box (v := .int .i64 7) hB 0 rfl
        obtain ⟨c1, _⟩ := kept_box (v := .string r) hB 1 rfl
        obtain ⟨c2, _⟩ := kept_box (v := .string o) hB 2 rfl
        obtain ⟨c3, _⟩ := kept_box (v := .string b) hB 3 rfl
        obtain ⟨c4, _⟩ := kept_box (v := .int .i64 n) hB 4 rfl
        go_wp2
        all_goals
          go_ret
          exact ⟨ret_bool (by (try simp only [e1.out, e2.out, e3.out, OpsM.nil0]); simp [*]; try rfl), box_below hB⟩
    · have mo : (o.toList == []) = false := by simpa using ho
      have ko : o.toList.isEmpty = false := by simpa using ho
      go_enter Tryz.func75, Tryz.ntmps75
      go_wp2_with fail
      refine (has7 _).mono ?_
      rintro e w0 ⟨rfl, rfl⟩
      go_wp2_with fail
      refine (HR.out _).mono ?_
      rintro e w1 ⟨rfl, hB⟩
      obtain ⟨c0, _⟩ := kept_box (v := .int .i64 7) hB 0 rfl
      obtain ⟨c1, _⟩ := kept_box (v := .string r) hB 1 rfl
      obtain ⟨c2, _⟩ := kept_box (v := .string o) hB 2 rfl
      obtain ⟨c3, _⟩ := kept_box (v := .string b) hB 3 rfl
      obtain ⟨c4, _⟩ := kept_box (v := .int .i64 n) hB 4 rfl
      go_wp2
      all_goals
        go_ret
        exact ⟨ret_bool (by (try simp only [e1.out, e2.out, e3.out, OpsM.nil0]); simp [*]; try rfl), box_below hB⟩
set_option maxHeartbeats 1000000 in
set_option maxRecDepth 100000 in
theorem rright8 (n : Int) (r o b : ByteArray) (w : World) (hr : r.size ≤ 100000) (ho : o.size ≤ 100000) (hb : b.size ≤ 100000) :
    Calls Tryz.prog 75 #[lnv 8 r o b n] w fun e w' => e = .returned (.bool (OpsM.right 8 r.data.toList o.data.toList b.data.toList n)) ∧ Below w.heap.size w w' := by
  have E := Lib.hid (show OpsM.right 8 r.data.toList o.data.toList b.data.toList n = (WordM.nameB b.data.toList && (OpsM.emp r.data.toList && (OpsM.emp o.data.toList && OpsM.nil0 n))) from rfl)
  have e1 := Lib.hid (emp_of r)
  have e2 := Lib.hid (emp_of o)
  have e3 := Lib.hid (emp_of b)
  have HR := Lib.hid (fun W => rreg_any r W)
  have HO := Lib.hid (fun W => rname_any o W ho)
  have HB := Lib.hid (fun W => rname_any b W hb)
  have hs := reg_sign r.data.toList
  clear hr ho hb
  rw [E.out]
  clear E
  generalize WordM.nameB b.data.toList = q2 at *
  unfold lnv
  clear hs
  by_cases hr : r.toList = []
  · skip
    by_cases ho : o.toList = []
    · skip
      cases q2
      · go_enter Tryz.func75, Tryz.ntmps75
        go_wp2_with fail
        refine (has8 _).mono ?_
        rintro e w0 ⟨rfl, rfl⟩
        go_wp2_with fail
        refine (HB.out _).mono ?_
        rintro e w1 ⟨rfl, hB⟩
        obtain ⟨c0, _⟩ := kept_box (v := .int .i64 8) hB 0 rfl
        obtain ⟨c1, _⟩ := kept_box (v := .string r) hB 1 rfl
        obtain ⟨c2, _⟩ := kept_box (v := .string o) hB 2 rfl
        obtain ⟨c3, _⟩ := kept_box (v := .string b) hB 3 rfl
        obtain ⟨c4, _⟩ := kept_box (v := .int .i64 n) hB 4 rfl
        go_wp2
        all_goals
          go_ret
          exact ⟨ret_bool (by (try simp only [e1.out, e2.out, e3.out, OpsM.nil0]); simp [*]; try rfl), box_below hB⟩
      · skip
        go_enter Tryz.func75, Tryz.ntmps75
        go_wp2_with fail
        refine (has8 _).mono ?_
        rintro e w0 ⟨rfl, rfl⟩
        go_wp2_with fail
        refine (HB.out _).mono ?_
        rintro e w1 ⟨rfl, hB⟩
        obtain ⟨c0, _⟩ := kept_box (v := .int .i64 8) hB 0 rfl
        obtain ⟨c1, _⟩ := kept_box (v := .string r) hB 1 rfl
        obtain ⟨c2, _⟩ := kept_box (v := .string o) hB 2 rfl
        obtain ⟨c3, _⟩ := kept_box (v := .string b) hB 3 rfl
        obtain ⟨c4, _⟩ := kept_box (v := .int .i64 n) hB 4 rfl
        go_wp2
        all_goals
          go_ret
          exact ⟨ret_bool (by (try simp only [e1.out, e2.out, e3.out, OpsM.nil0]); simp [*]; try rfl), box_below hB⟩
    · have mo : (o.toList == []) = false := by simpa using ho
      have ko : o.toList.isEmpty = false := by simpa using ho
      go_enter Tryz.func75, Tryz.ntmps75
      go_wp2_with fail
      refine (has8 _).mono ?_
      rintro e w0 ⟨rfl, rfl⟩
      go_wp2
      all_goals
        go_ret
        exact ⟨ret_bool (by (try simp only [e1.out, e2.out, e3.out, OpsM.nil0]); simp [*]; try rfl), (Below.refl _ _).alloc (Nat.le_refl _) _⟩
  · have mr : (r.toList == []) = false := by simpa using hr
    have kr : r.toList.isEmpty = false := by simpa using hr
    go_enter Tryz.func75, Tryz.ntmps75
    go_wp2_with fail
    refine (has8 _).mono ?_
    rintro e w0 ⟨rfl, rfl⟩
    go_wp2
    all_goals
      go_ret
      exact ⟨ret_bool (by (try simp only [e1.out, e2.out, e3.out, OpsM.nil0]); simp [*]; try rfl), (Below.refl _ _).alloc (Nat.le_refl _) _⟩
set_option maxHeartbeats 1000000 in
set_option maxRecDepth 100000 in
theorem rright9 (n : Int) (r o b : ByteArray) (w : World) (hr : r.size ≤ 100000) (ho : o.size ≤ 100000) (hb : b.size ≤ 100000) :
    Calls Tryz.prog 75 #[lnv 9 r o b n] w fun e w' => e = .returned (.bool (OpsM.right 9 r.data.toList o.data.toList b.data.toList n)) ∧ Below w.heap.size w w' := by
  have E := Lib.hid (show OpsM.right 9 r.data.toList o.data.toList b.data.toList n = (WordM.nameB b.data.toList && (OpsM.emp r.data.toList && (OpsM.emp o.data.toList && OpsM.nil0 n))) from rfl)
  have e1 := Lib.hid (emp_of r)
  have e2 := Lib.hid (emp_of o)
  have e3 := Lib.hid (emp_of b)
  have HR := Lib.hid (fun W => rreg_any r W)
  have HO := Lib.hid (fun W => rname_any o W ho)
  have HB := Lib.hid (fun W => rname_any b W hb)
  have hs := reg_sign r.data.toList
  clear hr ho hb
  rw [E.out]
  clear E
  generalize WordM.nameB b.data.toList = q2 at *
  unfold lnv
  clear hs
  by_cases hr : r.toList = []
  · skip
    by_cases ho : o.toList = []
    · skip
      cases q2
      · go_enter Tryz.func75, Tryz.ntmps75
        go_wp2_with fail
        refine (has9 _).mono ?_
        rintro e w0 ⟨rfl, rfl⟩
        go_wp2_with fail
        refine (HB.out _).mono ?_
        rintro e w1 ⟨rfl, hB⟩
        obtain ⟨c0, _⟩ := kept_box (v := .int .i64 9) hB 0 rfl
        obtain ⟨c1, _⟩ := kept_box (v := .string r) hB 1 rfl
        obtain ⟨c2, _⟩ := kept_box (v := .string o) hB 2 rfl
        obtain ⟨c3, _⟩ := kept_box (v := .string b) hB 3 rfl
        obtain ⟨c4, _⟩ := kept_box (v := .int .i64 n) hB 4 rfl
        go_wp2
        all_goals
          go_ret
          exact ⟨ret_bool (by (try simp only [e1.out, e2.out, e3.out, OpsM.nil0]); simp [*]; try rfl), box_below hB⟩
      · skip
        go_enter Tryz.func75, Tryz.ntmps75
        go_wp2_with fail
        refine (has9 _).mono ?_
        rintro e w0 ⟨rfl, rfl⟩
        go_wp2_with fail
        refine (HB.out _).mono ?_
        rintro e w1 ⟨rfl, hB⟩
        obtain ⟨c0, _⟩ := kept_box (v := .int .i64 9) hB 0 rfl
        obtain ⟨c1, _⟩ := kept_box (v := .string r) hB 1 rfl
        obtain ⟨c2, _⟩ := kept_box (v := .string o) hB 2 rfl
        obtain ⟨c3, _⟩ := kept_box (v := .string b) hB 3 rfl
        obtain ⟨c4, _⟩ := kept_box (v := .int .i64 n) hB 4 rfl
        go_wp2
        all_goals
          go_ret
          exact ⟨ret_bool (by (try simp only [e1.out, e2.out, e3.out, OpsM.nil0]); simp [*]; try rfl), box_below hB⟩
    · have mo : (o.toList == []) = false := by simpa using ho
      have ko : o.toList.isEmpty = false := by simpa using ho
      go_enter Tryz.func75, Tryz.ntmps75
      go_wp2_with fail
      refine (has9 _).mono ?_
      rintro e w0 ⟨rfl, rfl⟩
      go_wp2
      all_goals
        go_ret
        exact ⟨ret_bool (by (try simp only [e1.out, e2.out, e3.out, OpsM.nil0]); simp [*]; try rfl), (Below.refl _ _).alloc (Nat.le_refl _) _⟩
  · have mr : (r.toList == []) = false := by simpa using hr
    have kr : r.toList.isEmpty = false := by simpa using hr
    go_enter Tryz.func75, Tryz.ntmps75
    go_wp2_with fail
    refine (has9 _).mono ?_
    rintro e w0 ⟨rfl, rfl⟩
    go_wp2
    all_goals
      go_ret
      exact ⟨ret_bool (by (try simp only [e1.out, e2.out, e3.out, OpsM.nil0]); simp [*]; try rfl), (Below.refl _ _).alloc (Nat.le_refl _) _⟩
set_option maxHeartbeats 1000000 in
set_option maxRecDepth 100000 in
theorem rright10 (n : Int) (r o b : ByteArray) (w : World) (hr : r.size ≤ 100000) (ho : o.size ≤ 100000) (hb : b.size ≤ 100000) :
    Calls Tryz.prog 75 #[lnv 10 r o b n] w fun e w' => e = .returned (.bool (OpsM.right 10 r.data.toList o.data.toList b.data.toList n)) ∧ Below w.heap.size w w' := by
  have E := Lib.hid (show OpsM.right 10 r.data.toList o.data.toList b.data.toList n = (WordM.nameB b.data.toList && (OpsM.emp r.data.toList && (OpsM.emp o.data.toList && OpsM.nil0 n))) from rfl)
  have e1 := Lib.hid (emp_of r)
  have e2 := Lib.hid (emp_of o)
  have e3 := Lib.hid (emp_of b)
  have HR := Lib.hid (fun W => rreg_any r W)
  have HO := Lib.hid (fun W => rname_any o W ho)
  have HB := Lib.hid (fun W => rname_any b W hb)
  have hs := reg_sign r.data.toList
  clear hr ho hb
  rw [E.out]
  clear E
  generalize WordM.nameB b.data.toList = q2 at *
  unfold lnv
  clear hs
  by_cases hr : r.toList = []
  · skip
    by_cases ho : o.toList = []
    · skip
      cases q2
      · go_enter Tryz.func75, Tryz.ntmps75
        go_wp2_with fail
        refine (has10 _).mono ?_
        rintro e w0 ⟨rfl, rfl⟩
        go_wp2_with fail
        refine (HB.out _).mono ?_
        rintro e w1 ⟨rfl, hB⟩
        obtain ⟨c0, _⟩ := kept_box (v := .int .i64 10) hB 0 rfl
        obtain ⟨c1, _⟩ := kept_box (v := .string r) hB 1 rfl
        obtain ⟨c2, _⟩ := kept_box (v := .string o) hB 2 rfl
        obtain ⟨c3, _⟩ := kept_box (v := .string b) hB 3 rfl
        obtain ⟨c4, _⟩ := kept_box (v := .int .i64 n) hB 4 rfl
        go_wp2
        all_goals
          go_ret
          exact ⟨ret_bool (by (try simp only [e1.out, e2.out, e3.out, OpsM.nil0]); simp [*]; try rfl), box_below hB⟩
      · skip
        go_enter Tryz.func75, Tryz.ntmps75
        go_wp2_with fail
        refine (has10 _).mono ?_
        rintro e w0 ⟨rfl, rfl⟩
        go_wp2_with fail
        refine (HB.out _).mono ?_
        rintro e w1 ⟨rfl, hB⟩
        obtain ⟨c0, _⟩ := kept_box (v := .int .i64 10) hB 0 rfl
        obtain ⟨c1, _⟩ := kept_box (v := .string r) hB 1 rfl
        obtain ⟨c2, _⟩ := kept_box (v := .string o) hB 2 rfl
        obtain ⟨c3, _⟩ := kept_box (v := .string b) hB 3 rfl
        obtain ⟨c4, _⟩ := kept_box (v := .int .i64 n) hB 4 rfl
        go_wp2
        all_goals
          go_ret
          exact ⟨ret_bool (by (try simp only [e1.out, e2.out, e3.out, OpsM.nil0]); simp [*]; try rfl), box_below hB⟩
    · have mo : (o.toList == []) = false := by simpa using ho
      have ko : o.toList.isEmpty = false := by simpa using ho
      go_enter Tryz.func75, Tryz.ntmps75
      go_wp2_with fail
      refine (has10 _).mono ?_
      rintro e w0 ⟨rfl, rfl⟩
      go_wp2
      all_goals
        go_ret
        exact ⟨ret_bool (by (try simp only [e1.out, e2.out, e3.out, OpsM.nil0]); simp [*]; try rfl), (Below.refl _ _).alloc (Nat.le_refl _) _⟩
  · have mr : (r.toList == []) = false := by simpa using hr
    have kr : r.toList.isEmpty = false := by simpa using hr
    go_enter Tryz.func75, Tryz.ntmps75
    go_wp2_with fail
    refine (has10 _).mono ?_
    rintro e w0 ⟨rfl, rfl⟩
    go_wp2
    all_goals
      go_ret
      exact ⟨ret_bool (by (try simp only [e1.out, e2.out, e3.out, OpsM.nil0]); simp [*]; try rfl), (Below.refl _ _).alloc (Nat.le_refl _) _⟩
set_option maxHeartbeats 1000000 in
set_option maxRecDepth 100000 in
theorem rright11 (n : Int) (r o b : ByteArray) (w : World) (hr : r.size ≤ 100000) (ho : o.size ≤ 100000) (hb : b.size ≤ 100000) :
    Calls Tryz.prog 75 #[lnv 11 r o b n] w fun e w' => e = .returned (.bool (OpsM.right 11 r.data.toList o.data.toList b.data.toList n)) ∧ Below w.heap.size w w' := by
  have E := Lib.hid (show OpsM.right 11 r.data.toList o.data.toList b.data.toList n = (WordM.nameB b.data.toList && (OpsM.emp r.data.toList && (OpsM.emp o.data.toList && OpsM.nil0 n))) from rfl)
  have e1 := Lib.hid (emp_of r)
  have e2 := Lib.hid (emp_of o)
  have e3 := Lib.hid (emp_of b)
  have HR := Lib.hid (fun W => rreg_any r W)
  have HO := Lib.hid (fun W => rname_any o W ho)
  have HB := Lib.hid (fun W => rname_any b W hb)
  have hs := reg_sign r.data.toList
  clear hr ho hb
  rw [E.out]
  clear E
  generalize WordM.nameB b.data.toList = q2 at *
  unfold lnv
  clear hs
  by_cases hr : r.toList = []
  · skip
    by_cases ho : o.toList = []
    · skip
      cases q2
      · go_enter Tryz.func75, Tryz.ntmps75
        go_wp2_with fail
        refine (has11 _).mono ?_
        rintro e w0 ⟨rfl, rfl⟩
        go_wp2_with fail
        refine (HB.out _).mono ?_
        rintro e w1 ⟨rfl, hB⟩
        obtain ⟨c0, _⟩ := kept_box (v := .int .i64 11) hB 0 rfl
        obtain ⟨c1, _⟩ := kept_box (v := .string r) hB 1 rfl
        obtain ⟨c2, _⟩ := kept_box (v := .string o) hB 2 rfl
        obtain ⟨c3, _⟩ := kept_box (v := .string b) hB 3 rfl
        obtain ⟨c4, _⟩ := kept_box (v := .int .i64 n) hB 4 rfl
        go_wp2
        all_goals
          go_ret
          exact ⟨ret_bool (by (try simp only [e1.out, e2.out, e3.out, OpsM.nil0]); simp [*]; try rfl), box_below hB⟩
      · skip
        go_enter Tryz.func75, Tryz.ntmps75
        go_wp2_with fail
        refine (has11 _).mono ?_
        rintro e w0 ⟨rfl, rfl⟩
        go_wp2_with fail
        refine (HB.out _).mono ?_
        rintro e w1 ⟨rfl, hB⟩
        obtain ⟨c0, _⟩ := kept_box (v := .int .i64 11) hB 0 rfl
        obtain ⟨c1, _⟩ := kept_box (v := .string r) hB 1 rfl
        obtain ⟨c2, _⟩ := kept_box (v := .string o) hB 2 rfl
        obtain ⟨c3, _⟩ := kept_box (v := .string b) hB 3 rfl
        obtain ⟨c4, _⟩ := kept_box (v := .int .i64 n) hB 4 rfl
        go_wp2
        all_goals
          go_ret
          exact ⟨ret_bool (by (try simp only [e1.out, e2.out, e3.out, OpsM.nil0]); simp [*]; try rfl), box_below hB⟩
    · have mo : (o.toList == []) = false := by simpa using ho
      have ko : o.toList.isEmpty = false := by simpa using ho
      go_enter Tryz.func75, Tryz.ntmps75
      go_wp2_with fail
      refine (has11 _).mono ?_
      rintro e w0 ⟨rfl, rfl⟩
      go_wp2
      all_goals
        go_ret
        exact ⟨ret_bool (by (try simp only [e1.out, e2.out, e3.out, OpsM.nil0]); simp [*]; try rfl), (Below.refl _ _).alloc (Nat.le_refl _) _⟩
  · have mr : (r.toList == []) = false := by simpa using hr
    have kr : r.toList.isEmpty = false := by simpa using hr
    go_enter Tryz.func75, Tryz.ntmps75
    go_wp2_with fail
    refine (has11 _).mono ?_
    rintro e w0 ⟨rfl, rfl⟩
    go_wp2
    all_goals
      go_ret
      exact ⟨ret_bool (by (try simp only [e1.out, e2.out, e3.out, OpsM.nil0]); simp [*]; try rfl), (Below.refl _ _).alloc (Nat.le_refl _) _⟩
set_option maxHeartbeats 1000000 in
set_option maxRecDepth 100000 in
theorem hasNo (op : Int) (w : World) (h : op < 1 ∨ 11 < op) : Calls Tryz.prog 90 #[.int .i64 op] w fun e w' => e = .returned (.tuple #[.bool false, .bool false, .bool false, .bool false]) ∧ w = w' := by
  have g1 : (op == 1) = false := beq_eq_false_iff_ne.2 (by omega)
  have g2 : (op == 2) = false := beq_eq_false_iff_ne.2 (by omega)
  have g3 : (op == 3) = false := beq_eq_false_iff_ne.2 (by omega)
  have g4 : (op == 4) = false := beq_eq_false_iff_ne.2 (by omega)
  have g5 : (op == 5) = false := beq_eq_false_iff_ne.2 (by omega)
  have g6 : (op == 6) = false := beq_eq_false_iff_ne.2 (by omega)
  have g7 : (op == 7) = false := beq_eq_false_iff_ne.2 (by omega)
  rcases h with h | h
  · have q1 : decide (8 ≤ op) = false := decide_eq_false (by omega)
    have h2 : op < 8 := by omega
    clear h
    go_enter Tryz.func90, Tryz.ntmps90
    go_wp2
    exact bodyPost_ret (v := .tuple #[.bool false, .bool false, .bool false, .bool false]) (by simp [results, Tryz.results90, go_sem]) rfl ⟨rfl, rfl⟩
  · have q1 : decide (8 ≤ op) = true := decide_eq_true (by omega)
    have q2 : decide (op ≤ 11) = false := decide_eq_false (by omega)
    have h2 : 8 ≤ op := by omega
    clear h2
    go_enter Tryz.func90, Tryz.ntmps90
    go_wp2
    exact bodyPost_ret (v := .tuple #[.bool false, .bool false, .bool false, .bool false]) (by simp [results, Tryz.results90, go_sem]) rfl ⟨rfl, rfl⟩
set_option maxHeartbeats 1000000 in
set_option maxRecDepth 100000 in
theorem rrightNo (op n : Int) (r o b : ByteArray) (w : World) (h : op < 1 ∨ 11 < op) :
    Calls Tryz.prog 75 #[lnv op r o b n] w fun e w' => e = .returned (.bool false) ∧ Below w.heap.size w w' := by
  have HH := Lib.hid (fun W => hasNo op W h)
  unfold lnv
  rcases h with h | h
  · have q1 : decide (op < 1) = true := decide_eq_true h
    go_enter Tryz.func75, Tryz.ntmps75
    go_wp2_with fail
    refine (HH.out _).mono ?_
    rintro e w0 ⟨rfl, rfl⟩
    go_wp2
    go_ret
    exact ⟨rfl, (Below.refl _ _).alloc (Nat.le_refl _) _⟩
  · have q1 : decide (op < 1) = false := decide_eq_false (by omega)
    have q2 : decide (11 < op) = true := decide_eq_true h
    go_enter Tryz.func75, Tryz.ntmps75
    go_wp2_with fail
    refine (HH.out _).mono ?_
    rintro e w0 ⟨rfl, rfl⟩
    go_wp2
    go_ret
    exact ⟨rfl, (Below.refl _ _).alloc (Nat.le_refl _) _⟩
theorem rright_any (op n : Int) (r o b : ByteArray) (w : World) (hr : r.size ≤ 100000) (ho : o.size ≤ 100000) (hb : b.size ≤ 100000) :
    Calls Tryz.prog 75 #[lnv op r o b n] w fun e w' => e = .returned (.bool (OpsM.right op r.data.toList o.data.toList b.data.toList n)) ∧ Below w.heap.size w w' := by
  by_cases h1 : op = 1
  · subst h1; exact rright1 n r o b w hr ho hb
  by_cases h2 : op = 2
  · subst h2; exact rright2 n r o b w hr ho hb
  by_cases h3 : op = 3
  · subst h3; exact rright3 n r o b w hr ho hb
  by_cases h4 : op = 4
  · subst h4; exact rright4 n r o b w hr ho hb
  by_cases h5 : op = 5
  · subst h5; exact rright5 n r o b w hr ho hb
  by_cases h6 : op = 6
  · subst h6; exact rright6 n r o b w hr ho hb
  by_cases h7 : op = 7
  · subst h7; exact rright7 n r o b w hr ho hb
  by_cases h8 : op = 8
  · subst h8; exact rright8 n r o b w hr ho hb
  by_cases h9 : op = 9
  · subst h9; exact rright9 n r o b w hr ho hb
  by_cases h10 : op = 10
  · subst h10; exact rright10 n r o b w hr ho hb
  by_cases h11 : op = 11
  · subst h11; exact rright11 n r o b w hr ho hb
  rw [show OpsM.right op r.data.toList o.data.toList b.data.toList n = false by simp [OpsM.right, h1, h2, h3, h4, h5, h6, h7, h8, h9, h10, h11]]
  exact rrightNo op n r o b w (by omega)
end Go.Proofs.YtmpiapmfdmllkaaGreatDoor
