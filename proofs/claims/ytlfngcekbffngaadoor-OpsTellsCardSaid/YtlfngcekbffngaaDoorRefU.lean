/-
  THE DOCUMENT's OWN WORDS OF A LINE, over any world.
-/
import Derived.Test.YtlfngcekbffngaaDoorRefW
import Derived.Test.YtlfngcekbffngaaDoorOpsV
import Derived.Test.YtlfngcekbffngaaDoorNumR
import Derived.Test.YtlfngcekbffngaaDoorAtomW
namespace Go.Proofs.YtlfngcekbffngaaDoor
open Go.RowKit
set_option linter.unusedVariables false
set_option linter.unusedSimpArgs false
open WordM (L)

set_option maxHeartbeats 1000000 in
set_option maxRecDepth 100000 in
theorem rlwords1 (n : Int) (r o b : ByteArray) (w : World) (hn : NumM.inR n) (hr : r.size ≤ 100000) (ho : o.size ≤ 100000) (hb : b.size ≤ 100000) :
    Calls Tryd.prog 20 #[lnv 1 r o b n] w (RetStrs (OpsM.words 1 r.data.toList o.data.toList b.data.toList n) w) := by
  have E := Lib.hid (show OpsM.words 1 r.data.toList o.data.toList b.data.toList n = if OpsM.right 1 r.data.toList o.data.toList b.data.toList n then [OpsM.kmov, r.data.toList, NumM.text n] else [] from rfl)
  have HR := Lib.hid (fun W => rright1 n r o b W hr ho hb)
  have HT := Lib.hid (fun W => rtext_any n W hn)
  have z1 : (⟨#[91]⟩ : ByteArray).size = 1 := rfl
  have z2 : (⟨#[93]⟩ : ByteArray).size = 1 := rfl
  have z4 : (⟨#[58]⟩ : ByteArray).size = 1 := rfl
  have z3 : (⟨#[91]⟩ ++ o : ByteArray).size = 1 + o.size := by rw [ByteArray.size_append]; rfl
  have hc1 := fun W => run_string_add_sum (P := Tryd.prog) (w := W) ⟨#[91]⟩ o (by omega)
  have hc2 := fun W => run_string_add_sum (P := Tryd.prog) (w := W) (⟨#[91]⟩ ++ o) ⟨#[93]⟩ (by omega)
  have hE := show (⟨#[91]⟩ ++ o ++ ⟨#[93]⟩ : ByteArray) = ⟨(OpsM.brk o.data.toList).toArray⟩ by apply ByteArray.ext; rw [ByteArray.data_append, ByteArray.data_append]; apply Array.toList_inj.1; simp [OpsM.brk]
  rw [hE] at hc2
  clear z1 z2 z3 z4 hE hr ho hb
  rw [E.out]
  clear E
  generalize OpsM.right 1 r.data.toList o.data.toList b.data.toList n = res at *
  unfold lnv at *
  cases res
  · go_enter Tryd.func20, Tryd.ntmps20
    go_wp2_with fail
    refine (HR.out _).mono ?_
    rintro e w1 ⟨rfl, hB⟩
    go_wp2
    go_ret
    exact ret_nil (box_below hB)
  · go_enter Tryd.func20, Tryd.ntmps20
    go_wp2_with fail
    refine (HR.out _).mono ?_
    rintro e w1 ⟨rfl, hB⟩
    obtain ⟨c0, _⟩ := kept_box (v := .int .i64 1) hB 0 rfl
    obtain ⟨c1, _⟩ := kept_box (v := .string r) hB 1 rfl
    obtain ⟨c2, _⟩ := kept_box (v := .string o) hB 2 rfl
    obtain ⟨c3, _⟩ := kept_box (v := .string b) hB 3 rfl
    obtain ⟨c4, _⟩ := kept_box (v := .int .i64 n) hB 4 rfl
    go_wp2
    go_region_held3 (fun w' => w'.cell? ⟨w.heap.size, 1, none⟩ = some (.string r) ∧ w'.cell? ⟨w.heap.size, 4, none⟩ = some (.int .i64 n)) (first | go_keep | (exact held_below2 hB2 (by assumption)))
      (first | (go_at_call 35; refine (HT.out _).mono ?_; rintro e w' ⟨rfl, hB2⟩))
    all_goals
      go_wp2
      go_ret
      exact ret_lit [OpsM.kmov, r.data.toList, NumM.text n] (by simp) rfl rfl (by simp) ((box_below hB).trans ((below_undrew hB2).mono (box_below hB).size))
set_option maxHeartbeats 1000000 in
set_option maxRecDepth 100000 in
theorem rlwords2 (n : Int) (r o b : ByteArray) (w : World) (hn : NumM.inR n) (hr : r.size ≤ 100000) (ho : o.size ≤ 100000) (hb : b.size ≤ 100000) :
    Calls Tryd.prog 20 #[lnv 2 r o b n] w (RetStrs (OpsM.words 2 r.data.toList o.data.toList b.data.toList n) w) := by
  have E := Lib.hid (show OpsM.words 2 r.data.toList o.data.toList b.data.toList n = if OpsM.right 2 r.data.toList o.data.toList b.data.toList n then [OpsM.kmov, r.data.toList, OpsM.brk o.data.toList] else [] from rfl)
  have HR := Lib.hid (fun W => rright2 n r o b W hr ho hb)
  have HT := Lib.hid (fun W => rtext_any n W hn)
  have z1 : (⟨#[91]⟩ : ByteArray).size = 1 := rfl
  have z2 : (⟨#[93]⟩ : ByteArray).size = 1 := rfl
  have z4 : (⟨#[58]⟩ : ByteArray).size = 1 := rfl
  have z3 : (⟨#[91]⟩ ++ o : ByteArray).size = 1 + o.size := by rw [ByteArray.size_append]; rfl
  have hc1 := fun W => run_string_add_sum (P := Tryd.prog) (w := W) ⟨#[91]⟩ o (by omega)
  have hc2 := fun W => run_string_add_sum (P := Tryd.prog) (w := W) (⟨#[91]⟩ ++ o) ⟨#[93]⟩ (by omega)
  have hE := show (⟨#[91]⟩ ++ o ++ ⟨#[93]⟩ : ByteArray) = ⟨(OpsM.brk o.data.toList).toArray⟩ by apply ByteArray.ext; rw [ByteArray.data_append, ByteArray.data_append]; apply Array.toList_inj.1; simp [OpsM.brk]
  rw [hE] at hc2
  clear z1 z2 z3 z4 hE hr ho hb
  rw [E.out]
  clear E
  generalize OpsM.right 2 r.data.toList o.data.toList b.data.toList n = res at *
  unfold lnv at *
  cases res
  · go_enter Tryd.func20, Tryd.ntmps20
    go_wp2_with fail
    refine (HR.out _).mono ?_
    rintro e w1 ⟨rfl, hB⟩
    go_wp2
    go_ret
    exact ret_nil (box_below hB)
  · go_enter Tryd.func20, Tryd.ntmps20
    go_wp2_with fail
    refine (HR.out _).mono ?_
    rintro e w1 ⟨rfl, hB⟩
    obtain ⟨c0, _⟩ := kept_box (v := .int .i64 2) hB 0 rfl
    obtain ⟨c1, _⟩ := kept_box (v := .string r) hB 1 rfl
    obtain ⟨c2, _⟩ := kept_box (v := .string o) hB 2 rfl
    obtain ⟨c3, _⟩ := kept_box (v := .string b) hB 3 rfl
    obtain ⟨c4, _⟩ := kept_box (v := .int .i64 n) hB 4 rfl
    go_wp2
    go_ret
    exact ret_lit [OpsM.kmov, r.data.toList, OpsM.brk o.data.toList] (by simp) rfl rfl (by simp) (box_below hB)
set_option maxHeartbeats 1000000 in
set_option maxRecDepth 100000 in
theorem rlwords3 (n : Int) (r o b : ByteArray) (w : World) (hn : NumM.inR n) (hr : r.size ≤ 100000) (ho : o.size ≤ 100000) (hb : b.size ≤ 100000) :
    Calls Tryd.prog 20 #[lnv 3 r o b n] w (RetStrs (OpsM.words 3 r.data.toList o.data.toList b.data.toList n) w) := by
  have E := Lib.hid (show OpsM.words 3 r.data.toList o.data.toList b.data.toList n = if OpsM.right 3 r.data.toList o.data.toList b.data.toList n then [OpsM.kmov, OpsM.brk o.data.toList, r.data.toList] else [] from rfl)
  have HR := Lib.hid (fun W => rright3 n r o b W hr ho hb)
  have HT := Lib.hid (fun W => rtext_any n W hn)
  have z1 : (⟨#[91]⟩ : ByteArray).size = 1 := rfl
  have z2 : (⟨#[93]⟩ : ByteArray).size = 1 := rfl
  have z4 : (⟨#[58]⟩ : ByteArray).size = 1 := rfl
  have z3 : (⟨#[91]⟩ ++ o : ByteArray).size = 1 + o.size := by rw [ByteArray.size_append]; rfl
  have hc1 := fun W => run_string_add_sum (P := Tryd.prog) (w := W) ⟨#[91]⟩ o (by omega)
  have hc2 := fun W => run_string_add_sum (P := Tryd.prog) (w := W) (⟨#[91]⟩ ++ o) ⟨#[93]⟩ (by omega)
  have hE := show (⟨#[91]⟩ ++ o ++ ⟨#[93]⟩ : ByteArray) = ⟨(OpsM.brk o.data.toList).toArray⟩ by apply ByteArray.ext; rw [ByteArray.data_append, ByteArray.data_append]; apply Array.toList_inj.1; simp [OpsM.brk]
  rw [hE] at hc2
  clear z1 z2 z3 z4 hE hr ho hb
  rw [E.out]
  clear E
  generalize OpsM.right 3 r.data.toList o.data.toList b.data.toList n = res at *
  unfold lnv at *
  cases res
  · go_enter Tryd.func20, Tryd.ntmps20
    go_wp2_with fail
    refine (HR.out _).mono ?_
    rintro e w1 ⟨rfl, hB⟩
    go_wp2
    go_ret
    exact ret_nil (box_below hB)
  · go_enter Tryd.func20, Tryd.ntmps20
    go_wp2_with fail
    refine (HR.out _).mono ?_
    rintro e w1 ⟨rfl, hB⟩
    obtain ⟨c0, _⟩ := kept_box (v := .int .i64 3) hB 0 rfl
    obtain ⟨c1, _⟩ := kept_box (v := .string r) hB 1 rfl
    obtain ⟨c2, _⟩ := kept_box (v := .string o) hB 2 rfl
    obtain ⟨c3, _⟩ := kept_box (v := .string b) hB 3 rfl
    obtain ⟨c4, _⟩ := kept_box (v := .int .i64 n) hB 4 rfl
    go_wp2
    go_ret
    exact ret_lit [OpsM.kmov, OpsM.brk o.data.toList, r.data.toList] (by simp) rfl rfl (by simp) (box_below hB)
set_option maxHeartbeats 1000000 in
set_option maxRecDepth 100000 in
theorem rlwords4 (n : Int) (r o b : ByteArray) (w : World) (hn : NumM.inR n) (hr : r.size ≤ 100000) (ho : o.size ≤ 100000) (hb : b.size ≤ 100000) :
    Calls Tryd.prog 20 #[lnv 4 r o b n] w (RetStrs (OpsM.words 4 r.data.toList o.data.toList b.data.toList n) w) := by
  have E := Lib.hid (show OpsM.words 4 r.data.toList o.data.toList b.data.toList n = if OpsM.right 4 r.data.toList o.data.toList b.data.toList n then [OpsM.kmov, OpsM.brk o.data.toList, NumM.text n] else [] from rfl)
  have HR := Lib.hid (fun W => rright4 n r o b W hr ho hb)
  have HT := Lib.hid (fun W => rtext_any n W hn)
  have z1 : (⟨#[91]⟩ : ByteArray).size = 1 := rfl
  have z2 : (⟨#[93]⟩ : ByteArray).size = 1 := rfl
  have z4 : (⟨#[58]⟩ : ByteArray).size = 1 := rfl
  have z3 : (⟨#[91]⟩ ++ o : ByteArray).size = 1 + o.size := by rw [ByteArray.size_append]; rfl
  have hc1 := fun W => run_string_add_sum (P := Tryd.prog) (w := W) ⟨#[91]⟩ o (by omega)
  have hc2 := fun W => run_string_add_sum (P := Tryd.prog) (w := W) (⟨#[91]⟩ ++ o) ⟨#[93]⟩ (by omega)
  have hE := show (⟨#[91]⟩ ++ o ++ ⟨#[93]⟩ : ByteArray) = ⟨(OpsM.brk o.data.toList).toArray⟩ by apply ByteArray.ext; rw [ByteArray.data_append, ByteArray.data_append]; apply Array.toList_inj.1; simp [OpsM.brk]
  rw [hE] at hc2
  clear z1 z2 z3 z4 hE hr ho hb
  rw [E.out]
  clear E
  generalize OpsM.right 4 r.data.toList o.data.toList b.data.toList n = res at *
  unfold lnv at *
  cases res
  · go_enter Tryd.func20, Tryd.ntmps20
    go_wp2_with fail
    refine (HR.out _).mono ?_
    rintro e w1 ⟨rfl, hB⟩
    go_wp2
    go_ret
    exact ret_nil (box_below hB)
  · go_enter Tryd.func20, Tryd.ntmps20
    go_wp2_with fail
    refine (HR.out _).mono ?_
    rintro e w1 ⟨rfl, hB⟩
    obtain ⟨c0, _⟩ := kept_box (v := .int .i64 4) hB 0 rfl
    obtain ⟨c1, _⟩ := kept_box (v := .string r) hB 1 rfl
    obtain ⟨c2, _⟩ := kept_box (v := .string o) hB 2 rfl
    obtain ⟨c3, _⟩ := kept_box (v := .string b) hB 3 rfl
    obtain ⟨c4, _⟩ := kept_box (v := .int .i64 n) hB 4 rfl
    go_wp2_with fail
    refine (HT.out _).mono ?_
    rintro e w2 ⟨rfl, hB2⟩
    go_wp2
    go_ret
    exact ret_lit [OpsM.kmov, OpsM.brk o.data.toList, NumM.text n] (by simp) rfl rfl (by simp) ((box_below hB).trans (hB2.mono (box_below hB).size))
set_option maxHeartbeats 1000000 in
set_option maxRecDepth 100000 in
theorem rlwords5 (n : Int) (r o b : ByteArray) (w : World) (hn : NumM.inR n) (hr : r.size ≤ 100000) (ho : o.size ≤ 100000) (hb : b.size ≤ 100000) :
    Calls Tryd.prog 20 #[lnv 5 r o b n] w (RetStrs (OpsM.words 5 r.data.toList o.data.toList b.data.toList n) w) := by
  have E := Lib.hid (show OpsM.words 5 r.data.toList o.data.toList b.data.toList n = if OpsM.right 5 r.data.toList o.data.toList b.data.toList n then [OpsM.kxchg, OpsM.brk o.data.toList, r.data.toList] else [] from rfl)
  have HR := Lib.hid (fun W => rright5 n r o b W hr ho hb)
  have HT := Lib.hid (fun W => rtext_any n W hn)
  have z1 : (⟨#[91]⟩ : ByteArray).size = 1 := rfl
  have z2 : (⟨#[93]⟩ : ByteArray).size = 1 := rfl
  have z4 : (⟨#[58]⟩ : ByteArray).size = 1 := rfl
  have z3 : (⟨#[91]⟩ ++ o : ByteArray).size = 1 + o.size := by rw [ByteArray.size_append]; rfl
  have hc1 := fun W => run_string_add_sum (P := Tryd.prog) (w := W) ⟨#[91]⟩ o (by omega)
  have hc2 := fun W => run_string_add_sum (P := Tryd.prog) (w := W) (⟨#[91]⟩ ++ o) ⟨#[93]⟩ (by omega)
  have hE := show (⟨#[91]⟩ ++ o ++ ⟨#[93]⟩ : ByteArray) = ⟨(OpsM.brk o.data.toList).toArray⟩ by apply ByteArray.ext; rw [ByteArray.data_append, ByteArray.data_append]; apply Array.toList_inj.1; simp [OpsM.brk]
  rw [hE] at hc2
  clear z1 z2 z3 z4 hE hr ho hb
  rw [E.out]
  clear E
  generalize OpsM.right 5 r.data.toList o.data.toList b.data.toList n = res at *
  unfold lnv at *
  cases res
  · go_enter Tryd.func20, Tryd.ntmps20
    go_wp2_with fail
    refine (HR.out _).mono ?_
    rintro e w1 ⟨rfl, hB⟩
    go_wp2
    go_ret
    exact ret_nil (box_below hB)
  · go_enter Tryd.func20, Tryd.ntmps20
    go_wp2_with fail
    refine (HR.out _).mono ?_
    rintro e w1 ⟨rfl, hB⟩
    obtain ⟨c0, _⟩ := kept_box (v := .int .i64 5) hB 0 rfl
    obtain ⟨c1, _⟩ := kept_box (v := .string r) hB 1 rfl
    obtain ⟨c2, _⟩ := kept_box (v := .string o) hB 2 rfl
    obtain ⟨c3, _⟩ := kept_box (v := .string b) hB 3 rfl
    obtain ⟨c4, _⟩ := kept_box (v := .int .i64 n) hB 4 rfl
    go_wp2
    go_ret
    exact ret_lit [OpsM.kxchg, OpsM.brk o.data.toList, r.data.toList] (by simp) rfl rfl (by simp) (box_below hB)
set_option maxHeartbeats 1000000 in
set_option maxRecDepth 100000 in
theorem rlwords6 (n : Int) (r o b : ByteArray) (w : World) (hn : NumM.inR n) (hr : r.size ≤ 100000) (ho : o.size ≤ 100000) (hb : b.size ≤ 100000) :
    Calls Tryd.prog 20 #[lnv 6 r o b n] w (RetStrs (OpsM.words 6 r.data.toList o.data.toList b.data.toList n) w) := by
  have E := Lib.hid (show OpsM.words 6 r.data.toList o.data.toList b.data.toList n = if OpsM.right 6 r.data.toList o.data.toList b.data.toList n then [OpsM.kmfence] else [] from rfl)
  have HR := Lib.hid (fun W => rright6 n r o b W hr ho hb)
  have HT := Lib.hid (fun W => rtext_any n W hn)
  have z1 : (⟨#[91]⟩ : ByteArray).size = 1 := rfl
  have z2 : (⟨#[93]⟩ : ByteArray).size = 1 := rfl
  have z4 : (⟨#[58]⟩ : ByteArray).size = 1 := rfl
  have z3 : (⟨#[91]⟩ ++ o : ByteArray).size = 1 + o.size := by rw [ByteArray.size_append]; rfl
  have hc1 := fun W => run_string_add_sum (P := Tryd.prog) (w := W) ⟨#[91]⟩ o (by omega)
  have hc2 := fun W => run_string_add_sum (P := Tryd.prog) (w := W) (⟨#[91]⟩ ++ o) ⟨#[93]⟩ (by omega)
  have hE := show (⟨#[91]⟩ ++ o ++ ⟨#[93]⟩ : ByteArray) = ⟨(OpsM.brk o.data.toList).toArray⟩ by apply ByteArray.ext; rw [ByteArray.data_append, ByteArray.data_append]; apply Array.toList_inj.1; simp [OpsM.brk]
  rw [hE] at hc2
  clear z1 z2 z3 z4 hE hr ho hb
  rw [E.out]
  clear E
  generalize OpsM.right 6 r.data.toList o.data.toList b.data.toList n = res at *
  unfold lnv at *
  cases res
  · go_enter Tryd.func20, Tryd.ntmps20
    go_wp2_with fail
    refine (HR.out _).mono ?_
    rintro e w1 ⟨rfl, hB⟩
    go_wp2
    go_ret
    exact ret_nil (box_below hB)
  · go_enter Tryd.func20, Tryd.ntmps20
    go_wp2_with fail
    refine (HR.out _).mono ?_
    rintro e w1 ⟨rfl, hB⟩
    obtain ⟨c0, _⟩ := kept_box (v := .int .i64 6) hB 0 rfl
    obtain ⟨c1, _⟩ := kept_box (v := .string r) hB 1 rfl
    obtain ⟨c2, _⟩ := kept_box (v := .string o) hB 2 rfl
    obtain ⟨c3, _⟩ := kept_box (v := .string b) hB 3 rfl
    obtain ⟨c4, _⟩ := kept_box (v := .int .i64 n) hB 4 rfl
    go_wp2
    go_ret
    exact ret_lit [OpsM.kmfence] (by simp) rfl rfl (by simp) (box_below hB)
set_option maxHeartbeats 1000000 in
set_option maxRecDepth 100000 in
theorem rlwords7 (n : Int) (r o b : ByteArray) (w : World) (hn : NumM.inR n) (hr : r.size ≤ 100000) (ho : o.size ≤ 100000) (hb : b.size ≤ 100000) :
    Calls Tryd.prog 20 #[lnv 7 r o b n] w (RetStrs (OpsM.words 7 r.data.toList o.data.toList b.data.toList n) w) := by
  have E := Lib.hid (show OpsM.words 7 r.data.toList o.data.toList b.data.toList n = if OpsM.right 7 r.data.toList o.data.toList b.data.toList n then [OpsM.kcmp, r.data.toList, NumM.text n] else [] from rfl)
  have HR := Lib.hid (fun W => rright7 n r o b W hr ho hb)
  have HT := Lib.hid (fun W => rtext_any n W hn)
  have z1 : (⟨#[91]⟩ : ByteArray).size = 1 := rfl
  have z2 : (⟨#[93]⟩ : ByteArray).size = 1 := rfl
  have z4 : (⟨#[58]⟩ : ByteArray).size = 1 := rfl
  have z3 : (⟨#[91]⟩ ++ o : ByteArray).size = 1 + o.size := by rw [ByteArray.size_append]; rfl
  have hc1 := fun W => run_string_add_sum (P := Tryd.prog) (w := W) ⟨#[91]⟩ o (by omega)
  have hc2 := fun W => run_string_add_sum (P := Tryd.prog) (w := W) (⟨#[91]⟩ ++ o) ⟨#[93]⟩ (by omega)
  have hE := show (⟨#[91]⟩ ++ o ++ ⟨#[93]⟩ : ByteArray) = ⟨(OpsM.brk o.data.toList).toArray⟩ by apply ByteArray.ext; rw [ByteArray.data_append, ByteArray.data_append]; apply Array.toList_inj.1; simp [OpsM.brk]
  rw [hE] at hc2
  clear z1 z2 z3 z4 hE hr ho hb
  rw [E.out]
  clear E
  generalize OpsM.right 7 r.data.toList o.data.toList b.data.toList n = res at *
  unfold lnv at *
  cases res
  · go_enter Tryd.func20, Tryd.ntmps20
    go_wp2_with fail
    refine (HR.out _).mono ?_
    rintro e w1 ⟨rfl, hB⟩
    go_wp2
    go_ret
    exact ret_nil (box_below hB)
  · go_enter Tryd.func20, Tryd.ntmps20
    go_wp2_with fail
    refine (HR.out _).mono ?_
    rintro e w1 ⟨rfl, hB⟩
    obtain ⟨c0, _⟩ := kept_box (v := .int .i64 7) hB 0 rfl
    obtain ⟨c1, _⟩ := kept_box (v := .string r) hB 1 rfl
    obtain ⟨c2, _⟩ := kept_box (v := .string o) hB 2 rfl
    obtain ⟨c3, _⟩ := kept_box (v := .string b) hB 3 rfl
    obtain ⟨c4, _⟩ := kept_box (v := .int .i64 n) hB 4 rfl
    go_wp2
    go_region_held3 (fun w' => w'.cell? ⟨w.heap.size, 1, none⟩ = some (.string r) ∧ w'.cell? ⟨w.heap.size, 4, none⟩ = some (.int .i64 n)) (first | go_keep | (exact held_below2 hB2 (by assumption)))
      (first | (go_at_call 35; refine (HT.out _).mono ?_; rintro e w' ⟨rfl, hB2⟩))
    all_goals
      go_wp2
      go_ret
      exact ret_lit [OpsM.kcmp, r.data.toList, NumM.text n] (by simp) rfl rfl (by simp) ((box_below hB).trans ((below_undrew hB2).mono (box_below hB).size))
set_option maxHeartbeats 1000000 in
set_option maxRecDepth 100000 in
theorem rlwords8 (n : Int) (r o b : ByteArray) (w : World) (hn : NumM.inR n) (hr : r.size ≤ 100000) (ho : o.size ≤ 100000) (hb : b.size ≤ 100000) :
    Calls Tryd.prog 20 #[lnv 8 r o b n] w (RetStrs (OpsM.words 8 r.data.toList o.data.toList b.data.toList n) w) := by
  have E := Lib.hid (show OpsM.words 8 r.data.toList o.data.toList b.data.toList n = if OpsM.right 8 r.data.toList o.data.toList b.data.toList n then [OpsM.kjmp, b.data.toList] else [] from rfl)
  have HR := Lib.hid (fun W => rright8 n r o b W hr ho hb)
  have HT := Lib.hid (fun W => rtext_any n W hn)
  have z1 : (⟨#[91]⟩ : ByteArray).size = 1 := rfl
  have z2 : (⟨#[93]⟩ : ByteArray).size = 1 := rfl
  have z4 : (⟨#[58]⟩ : ByteArray).size = 1 := rfl
  have z3 : (⟨#[91]⟩ ++ o : ByteArray).size = 1 + o.size := by rw [ByteArray.size_append]; rfl
  have hc1 := fun W => run_string_add_sum (P := Tryd.prog) (w := W) ⟨#[91]⟩ o (by omega)
  have hc2 := fun W => run_string_add_sum (P := Tryd.prog) (w := W) (⟨#[91]⟩ ++ o) ⟨#[93]⟩ (by omega)
  have hE := show (⟨#[91]⟩ ++ o ++ ⟨#[93]⟩ : ByteArray) = ⟨(OpsM.brk o.data.toList).toArray⟩ by apply ByteArray.ext; rw [ByteArray.data_append, ByteArray.data_append]; apply Array.toList_inj.1; simp [OpsM.brk]
  rw [hE] at hc2
  clear z1 z2 z3 z4 hE hr ho hb
  rw [E.out]
  clear E
  generalize OpsM.right 8 r.data.toList o.data.toList b.data.toList n = res at *
  unfold lnv at *
  cases res
  · go_enter Tryd.func20, Tryd.ntmps20
    go_wp2_with fail
    refine (HR.out _).mono ?_
    rintro e w1 ⟨rfl, hB⟩
    go_wp2
    go_ret
    exact ret_nil (box_below hB)
  · go_enter Tryd.func20, Tryd.ntmps20
    go_wp2_with fail
    refine (HR.out _).mono ?_
    rintro e w1 ⟨rfl, hB⟩
    obtain ⟨c0, _⟩ := kept_box (v := .int .i64 8) hB 0 rfl
    obtain ⟨c1, _⟩ := kept_box (v := .string r) hB 1 rfl
    obtain ⟨c2, _⟩ := kept_box (v := .string o) hB 2 rfl
    obtain ⟨c3, _⟩ := kept_box (v := .string b) hB 3 rfl
    obtain ⟨c4, _⟩ := kept_box (v := .int .i64 n) hB 4 rfl
    go_wp2
    go_ret
    exact ret_lit [OpsM.kjmp, b.data.toList] (by simp) rfl rfl (by simp) (box_below hB)
set_option maxHeartbeats 1000000 in
set_option maxRecDepth 100000 in
theorem rlwords9 (n : Int) (r o b : ByteArray) (w : World) (hn : NumM.inR n) (hr : r.size ≤ 100000) (ho : o.size ≤ 100000) (hb : b.size ≤ 100000) :
    Calls Tryd.prog 20 #[lnv 9 r o b n] w (RetStrs (OpsM.words 9 r.data.toList o.data.toList b.data.toList n) w) := by
  have E := Lib.hid (show OpsM.words 9 r.data.toList o.data.toList b.data.toList n = if OpsM.right 9 r.data.toList o.data.toList b.data.toList n then [OpsM.kje, b.data.toList] else [] from rfl)
  have HR := Lib.hid (fun W => rright9 n r o b W hr ho hb)
  have HT := Lib.hid (fun W => rtext_any n W hn)
  have z1 : (⟨#[91]⟩ : ByteArray).size = 1 := rfl
  have z2 : (⟨#[93]⟩ : ByteArray).size = 1 := rfl
  have z4 : (⟨#[58]⟩ : ByteArray).size = 1 := rfl
  have z3 : (⟨#[91]⟩ ++ o : ByteArray).size = 1 + o.size := by rw [ByteArray.size_append]; rfl
  have hc1 := fun W => run_string_add_sum (P := Tryd.prog) (w := W) ⟨#[91]⟩ o (by omega)
  have hc2 := fun W => run_string_add_sum (P := Tryd.prog) (w := W) (⟨#[91]⟩ ++ o) ⟨#[93]⟩ (by omega)
  have hE := show (⟨#[91]⟩ ++ o ++ ⟨#[93]⟩ : ByteArray) = ⟨(OpsM.brk o.data.toList).toArray⟩ by apply ByteArray.ext; rw [ByteArray.data_append, ByteArray.data_append]; apply Array.toList_inj.1; simp [OpsM.brk]
  rw [hE] at hc2
  clear z1 z2 z3 z4 hE hr ho hb
  rw [E.out]
  clear E
  generalize OpsM.right 9 r.data.toList o.data.toList b.data.toList n = res at *
  unfold lnv at *
  cases res
  · go_enter Tryd.func20, Tryd.ntmps20
    go_wp2_with fail
    refine (HR.out _).mono ?_
    rintro e w1 ⟨rfl, hB⟩
    go_wp2
    go_ret
    exact ret_nil (box_below hB)
  · go_enter Tryd.func20, Tryd.ntmps20
    go_wp2_with fail
    refine (HR.out _).mono ?_
    rintro e w1 ⟨rfl, hB⟩
    obtain ⟨c0, _⟩ := kept_box (v := .int .i64 9) hB 0 rfl
    obtain ⟨c1, _⟩ := kept_box (v := .string r) hB 1 rfl
    obtain ⟨c2, _⟩ := kept_box (v := .string o) hB 2 rfl
    obtain ⟨c3, _⟩ := kept_box (v := .string b) hB 3 rfl
    obtain ⟨c4, _⟩ := kept_box (v := .int .i64 n) hB 4 rfl
    go_wp2
    go_ret
    exact ret_lit [OpsM.kje, b.data.toList] (by simp) rfl rfl (by simp) (box_below hB)
set_option maxHeartbeats 1000000 in
set_option maxRecDepth 100000 in
theorem rlwords10 (n : Int) (r o b : ByteArray) (w : World) (hn : NumM.inR n) (hr : r.size ≤ 100000) (ho : o.size ≤ 100000) (hb : b.size ≤ 100000) :
    Calls Tryd.prog 20 #[lnv 10 r o b n] w (RetStrs (OpsM.words 10 r.data.toList o.data.toList b.data.toList n) w) := by
  have E := Lib.hid (show OpsM.words 10 r.data.toList o.data.toList b.data.toList n = if OpsM.right 10 r.data.toList o.data.toList b.data.toList n then [OpsM.kjne, b.data.toList] else [] from rfl)
  have HR := Lib.hid (fun W => rright10 n r o b W hr ho hb)
  have HT := Lib.hid (fun W => rtext_any n W hn)
  have z1 : (⟨#[91]⟩ : ByteArray).size = 1 := rfl
  have z2 : (⟨#[93]⟩ : ByteArray).size = 1 := rfl
  have z4 : (⟨#[58]⟩ : ByteArray).size = 1 := rfl
  have z3 : (⟨#[91]⟩ ++ o : ByteArray).size = 1 + o.size := by rw [ByteArray.size_append]; rfl
  have hc1 := fun W => run_string_add_sum (P := Tryd.prog) (w := W) ⟨#[91]⟩ o (by omega)
  have hc2 := fun W => run_string_add_sum (P := Tryd.prog) (w := W) (⟨#[91]⟩ ++ o) ⟨#[93]⟩ (by omega)
  have hE := show (⟨#[91]⟩ ++ o ++ ⟨#[93]⟩ : ByteArray) = ⟨(OpsM.brk o.data.toList).toArray⟩ by apply ByteArray.ext; rw [ByteArray.data_append, ByteArray.data_append]; apply Array.toList_inj.1; simp [OpsM.brk]
  rw [hE] at hc2
  clear z1 z2 z3 z4 hE hr ho hb
  rw [E.out]
  clear E
  generalize OpsM.right 10 r.data.toList o.data.toList b.data.toList n = res at *
  unfold lnv at *
  cases res
  · go_enter Tryd.func20, Tryd.ntmps20
    go_wp2_with fail
    refine (HR.out _).mono ?_
    rintro e w1 ⟨rfl, hB⟩
    go_wp2
    go_ret
    exact ret_nil (box_below hB)
  · go_enter Tryd.func20, Tryd.ntmps20
    go_wp2_with fail
    refine (HR.out _).mono ?_
    rintro e w1 ⟨rfl, hB⟩
    obtain ⟨c0, _⟩ := kept_box (v := .int .i64 10) hB 0 rfl
    obtain ⟨c1, _⟩ := kept_box (v := .string r) hB 1 rfl
    obtain ⟨c2, _⟩ := kept_box (v := .string o) hB 2 rfl
    obtain ⟨c3, _⟩ := kept_box (v := .string b) hB 3 rfl
    obtain ⟨c4, _⟩ := kept_box (v := .int .i64 n) hB 4 rfl
    go_wp2
    go_ret
    exact ret_lit [OpsM.kjne, b.data.toList] (by simp) rfl rfl (by simp) (box_below hB)
set_option maxHeartbeats 1000000 in
set_option maxRecDepth 100000 in
theorem rlwords11 (n : Int) (r o b : ByteArray) (w : World) (hn : NumM.inR n) (hr : r.size ≤ 100000) (ho : o.size ≤ 100000) (hb : b.size ≤ 100000) :
    Calls Tryd.prog 20 #[lnv 11 r o b n] w (RetStrs (OpsM.words 11 r.data.toList o.data.toList b.data.toList n) w) := by
  have E := Lib.hid (show OpsM.words 11 r.data.toList o.data.toList b.data.toList n = if OpsM.right 11 r.data.toList o.data.toList b.data.toList n then [OpsM.col b.data.toList] else [] from rfl)
  have HR := Lib.hid (fun W => rright11 n r o b W hr ho hb)
  have HT := Lib.hid (fun W => rtext_any n W hn)
  have z1 : (⟨#[91]⟩ : ByteArray).size = 1 := rfl
  have z2 : (⟨#[93]⟩ : ByteArray).size = 1 := rfl
  have z4 : (⟨#[58]⟩ : ByteArray).size = 1 := rfl
  have z3 : (⟨#[91]⟩ ++ o : ByteArray).size = 1 + o.size := by rw [ByteArray.size_append]; rfl
  have hc1 := fun W => run_string_add_sum (P := Tryd.prog) (w := W) ⟨#[91]⟩ o (by omega)
  have hc2 := fun W => run_string_add_sum (P := Tryd.prog) (w := W) (⟨#[91]⟩ ++ o) ⟨#[93]⟩ (by omega)
  have hE := show (⟨#[91]⟩ ++ o ++ ⟨#[93]⟩ : ByteArray) = ⟨(OpsM.brk o.data.toList).toArray⟩ by apply ByteArray.ext; rw [ByteArray.data_append, ByteArray.data_append]; apply Array.toList_inj.1; simp [OpsM.brk]
  rw [hE] at hc2
  have hc3 := fun W => run_string_add_sum (P := Tryd.prog) (w := W) b ⟨#[58]⟩ (by omega)
  have hE2 := show (b ++ ⟨#[58]⟩ : ByteArray) = ⟨(OpsM.col b.data.toList).toArray⟩ by apply ByteArray.ext; rw [ByteArray.data_append]; apply Array.toList_inj.1; simp [OpsM.col]
  rw [hE2] at hc3
  clear hE2
  clear z1 z2 z3 z4 hE hr ho hb
  rw [E.out]
  clear E
  generalize OpsM.right 11 r.data.toList o.data.toList b.data.toList n = res at *
  unfold lnv at *
  cases res
  · go_enter Tryd.func20, Tryd.ntmps20
    go_wp2_with fail
    refine (HR.out _).mono ?_
    rintro e w1 ⟨rfl, hB⟩
    go_wp2
    go_ret
    exact ret_nil (box_below hB)
  · go_enter Tryd.func20, Tryd.ntmps20
    go_wp2_with fail
    refine (HR.out _).mono ?_
    rintro e w1 ⟨rfl, hB⟩
    obtain ⟨c0, _⟩ := kept_box (v := .int .i64 11) hB 0 rfl
    obtain ⟨c1, _⟩ := kept_box (v := .string r) hB 1 rfl
    obtain ⟨c2, _⟩ := kept_box (v := .string o) hB 2 rfl
    obtain ⟨c3, _⟩ := kept_box (v := .string b) hB 3 rfl
    obtain ⟨c4, _⟩ := kept_box (v := .int .i64 n) hB 4 rfl
    go_wp2
    go_ret
    exact ret_lit [OpsM.col b.data.toList] (by simp) rfl rfl (by simp) (box_below hB)
set_option maxHeartbeats 1000000 in
set_option maxRecDepth 100000 in
theorem rlwordsNo (op n : Int) (r o b : ByteArray) (w : World) (h : op < 1 ∨ 11 < op) :
    Calls Tryd.prog 20 #[lnv op r o b n] w (RetStrs [] w) := by
  have HR := Lib.hid (fun W => rrightNo op n r o b W h)
  clear h
  unfold lnv at *
  go_enter Tryd.func20, Tryd.ntmps20
  go_wp2_with fail
  refine (HR.out _).mono ?_
  rintro e w1 ⟨rfl, hB⟩
  go_wp2
  go_ret
  exact ret_nil (box_below hB)
theorem rlwords_any (op n : Int) (r o b : ByteArray) (w : World) (hn : NumM.inR n) (hr : r.size ≤ 100000) (ho : o.size ≤ 100000) (hb : b.size ≤ 100000) :
    Calls Tryd.prog 20 #[lnv op r o b n] w (RetStrs (OpsM.words op r.data.toList o.data.toList b.data.toList n) w) := by
  by_cases h1 : op = 1
  · subst h1; exact rlwords1 n r o b w hn hr ho hb
  by_cases h2 : op = 2
  · subst h2; exact rlwords2 n r o b w hn hr ho hb
  by_cases h3 : op = 3
  · subst h3; exact rlwords3 n r o b w hn hr ho hb
  by_cases h4 : op = 4
  · subst h4; exact rlwords4 n r o b w hn hr ho hb
  by_cases h5 : op = 5
  · subst h5; exact rlwords5 n r o b w hn hr ho hb
  by_cases h6 : op = 6
  · subst h6; exact rlwords6 n r o b w hn hr ho hb
  by_cases h7 : op = 7
  · subst h7; exact rlwords7 n r o b w hn hr ho hb
  by_cases h8 : op = 8
  · subst h8; exact rlwords8 n r o b w hn hr ho hb
  by_cases h9 : op = 9
  · subst h9; exact rlwords9 n r o b w hn hr ho hb
  by_cases h10 : op = 10
  · subst h10; exact rlwords10 n r o b w hn hr ho hb
  by_cases h11 : op = 11
  · subst h11; exact rlwords11 n r o b w hn hr ho hb
  rw [show OpsM.words op r.data.toList o.data.toList b.data.toList n = [] by unfold OpsM.words; rw [right_no op n _ _ _ h1 h2 h3 h4 h5 h6 h7 h8 h9 h10 h11]; rfl]
  exact rlwordsNo op n r o b w (by omega)
end Go.Proofs.YtlfngcekbffngaaDoor
