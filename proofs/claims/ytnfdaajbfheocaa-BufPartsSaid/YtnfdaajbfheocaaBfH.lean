/-
  LAYER 9's head and great.
-/
import Derived.Test.YtnfdaajbfheocaaBfU
import Derived.Test.YtnfdaajbfheocaaBfV
import Derived.Test.YtnfdaajbfheocaaBfE
namespace Go.Proofs.Ytnfdaajbfheocaa
open Go.RowKit
set_option linter.unusedVariables false
set_option linter.unusedSimpArgs false
open BfM

theorem lit_ints (W : World) (ns : List Int) (h : ns.length ≤ 1000000) : Ints (W.heap.size + 1) (W.alloc (.cells (ns.flatMap inC).toArray 3)) (.slice (some ⟨W.heap.size, 0, none⟩) ns.length ns.length) ns := by
  have hl := flat_len inC_len ns
  have := World.ownsRow_lit (base := W.heap.size) (e := 3) (size := 1) W (ns.flatMap inC).toArray ns.length (Nat.le_refl _) (by unfold maxLen; omega) (by simpa using hl)
  refine Rw.own (T := 3) (base := W.heap.size) ?_ (by simp)
  simpa using this
theorem lit_wrs (W : World) (ns : List Wr) (h : ns.length ≤ 1000000) : Wrs (W.heap.size + 1) (W.alloc (.cells (ns.flatMap wrC).toArray 24)) (.slice (some ⟨W.heap.size, 0, none⟩) ns.length ns.length) ns := by
  have hl := flat_len wrC_len ns
  have := World.ownsRow_lit (base := W.heap.size) (e := 24) (size := 2) W (ns.flatMap wrC).toArray ns.length (Nat.le_refl _) (by unfold maxLen; omega) (by simpa using hl)
  refine Rw.own (T := 24) (base := W.heap.size) ?_ (by simp)
  simpa using this
def hb : List Wr := [⟨1, 5⟩, ⟨1, 6⟩]
set_option maxHeartbeats 8000000 in
set_option maxRecDepth 100000 in
theorem bhead_any (w : World) : Calls Try.prog 9 #[] w fun e w' => e = .returned (.bool true) ∧ Below w.heap.size w w' := by
  have HP1 := Lib.hid (push_any ⟨1, 5⟩ w (Rw.nil 0 w) (Nat.zero_le _) (by decide))
  go_enter Try.func9, Try.ntmps9
  go_wp2_with fail
  refine HP1.out.mono ?_
  rintro e w1 ⟨u1, rfl, ho1, hb1⟩
  have HP2 := Lib.hid (push_any ⟨1, 6⟩ w1 (Rw.own ho1 (Nat.le_refl _)) (Nat.le_refl _) (by decide))
  obtain ⟨A1, c1, rfl⟩ := own_slice ho1
  clear HP1 ho1
  go_wp2_with fail
  refine HP2.out.mono ?_
  rintro e w2 ⟨u2, rfl, ho2, hb2⟩
  have HB := Lib.hid (fun W (hW : Below w2.heap.size w2 W) => show Wrs W.heap.size W u2 hb from ((Rw.own ho2 (Nat.le_refl _)).below hW).more hW.size)
  obtain ⟨A2, c2, rfl⟩ := own_slice ho2
  have hB := chain hb1 hb2
  have hR : Below w2.heap.size w2 w2 := Below.refl _ _
  have hbl : hb.length ≤ 1000000 := by decide
  have HL1 := Lib.hid (fun W (hW : Below w2.heap.size w2 W) => show Calls Try.prog 11 _ _ fun e w' => e = .returned (.tuple #[.int .i64 6, .bool true]) ∧ Below W.heap.size W w' from last_any 1 W (HB.out W hW) (Nat.le_refl _) hbl)
  have HL0 := Lib.hid (fun W (hW : Below w2.heap.size w2 W) => show Calls Try.prog 11 _ _ fun e w' => e = .returned (.tuple #[.int .i64 0, .bool false]) ∧ Below W.heap.size W w' from last_any 0 W (HB.out W hW) (Nat.le_refl _) hbl)
  have HI := Lib.hid (fun (W : World) => lit_ints W [7, 8] (by decide))
  have HW8 := Lib.hid (fun W (hW : Below w2.heap.size w2 W) => show Wrs (W.heap.size + 1) (W.alloc (.cells #[.int .i64 7, .int .i64 8] 3)) _ hb from ((HB.out W hW).below ((Below.refl _ _).alloc (Nat.le_refl _) _)).more (by omega))
  have HV0 := Lib.hid (fun W (hW : Below w2.heap.size w2 W) => show Calls Try.prog 13 _ _ fun e w' => e = .returned (.tuple #[.int .i64 7, .bool true]) ∧ Below (W.alloc (.cells #[.int .i64 7, .int .i64 8] 3)).heap.size (W.alloc (.cells #[.int .i64 7, .int .i64 8] 3)) w' from view_any 0 (W.alloc (.cells #[.int .i64 7, .int .i64 8] 3)) (HW8.out W hW) (HI.out W) (by simp) hbl (by decide))
  have HV2 := Lib.hid (fun W (hW : Below w2.heap.size w2 W) => show Calls Try.prog 13 _ _ fun e w' => e = .returned (.tuple #[.int .i64 0, .bool false]) ∧ Below (W.alloc (.cells #[.int .i64 7, .int .i64 8] 3)).heap.size (W.alloc (.cells #[.int .i64 7, .int .i64 8] 3)) w' from view_any 2 (W.alloc (.cells #[.int .i64 7, .int .i64 8] 3)) (HW8.out W hW) (HI.out W) (by simp) hbl (by decide))
  have HD := Lib.hid (fun W (hW : Below w2.heap.size w2 W) => show Calls Try.prog 15 _ _ (fun e w' => ∃ x y n1, e = .returned (.tuple #[x, y, .bool true]) ∧ (W.alloc (.cells #[.int .i64 7, .int .i64 8] 3)).heap.size ≤ n1 ∧ OwnW n1 w' x [⟨1, 6⟩] ∧ OwnI (W.alloc (.cells #[.int .i64 7, .int .i64 8] 3)).heap.size w' y [7, 5] ∧ (∀ g, y.ownBlock = some g → g < n1) ∧ Below (W.alloc (.cells #[.int .i64 7, .int .i64 8] 3)).heap.size (W.alloc (.cells #[.int .i64 7, .int .i64 8] 3)) w') from drain_any (W.alloc (.cells #[.int .i64 7, .int .i64 8] 3)) (HW8.out W hW) (HI.out W) (by simp) hbl (by decide))
  have HAL := Lib.hid (fun W (hW : Below w2.heap.size w2 W) => show Calls Try.prog 21 _ _ (fun e w' => ∃ y, e = .returned y ∧ OwnI (W.alloc (.cells #[.int .i64 7, .int .i64 8] 3)).heap.size w' y [7, 6] ∧ Below (W.alloc (.cells #[.int .i64 7, .int .i64 8] 3)).heap.size (W.alloc (.cells #[.int .i64 7, .int .i64 8] 3)) w') from all_any (W.alloc (.cells #[.int .i64 7, .int .i64 8] 3)) (HW8.out W hW) (HI.out W) (by simp) hbl (by decide))
  have HD0 := Lib.hid (fun (W : World) => show Calls Try.prog 15 _ _ (fun e w' => ∃ x y n1, e = .returned (.tuple #[x, y, .bool false]) ∧ (W.alloc (.cells #[.int .i64 7] 3)).heap.size ≤ n1 ∧ OwnW n1 w' x [] ∧ OwnI (W.alloc (.cells #[.int .i64 7] 3)).heap.size w' y [7] ∧ (∀ g, y.ownBlock = some g → g < n1) ∧ Below (W.alloc (.cells #[.int .i64 7] 3)).heap.size (W.alloc (.cells #[.int .i64 7] 3)) w') from drain_any (W.alloc (.cells #[.int .i64 7] 3)) (Rw.nil (W.heap.size + 1) _) (lit_ints W [7] (by decide)) (by simp) (by decide) (by decide))
  have HAL9 := Lib.hid (fun (W : World) => below_al (Below.refl W.heap.size W) (.cells #[.int .i64 7, .int .i64 8] 3))
  have HAL7 := Lib.hid (fun (W : World) => below_al (Below.refl W.heap.size W) (.cells #[.int .i64 7] 3))
  clear HP2 ho2 hb1 hb2 HB hbl HI HW8
  go_wp2_with fail
  refine (HL1.out _ hR).mono ?_
  rintro e w3 ⟨rfl, hb⟩
  replace hR := chain hR hb
  clear hb
  go_wp2_with fail
  refine (HL0.out _ hR).mono ?_
  rintro e w4 ⟨rfl, hb⟩
  replace hR := chain hR hb
  clear hb
  go_wp2_with fail
  refine (HV0.out _ hR).mono ?_
  rintro e w5 ⟨rfl, hb⟩
  replace hR := chain hR (chain (HAL9.out _) hb)
  clear hb
  go_wp2_with fail
  refine (HV2.out _ hR).mono ?_
  rintro e w6 ⟨rfl, hb⟩
  replace hR := chain hR (chain (HAL9.out _) hb)
  clear hb
  go_wp2_with fail
  refine (HD.out _ hR).mono ?_
  rintro e w7 ⟨x7, y7, n7, rfl, hn7, hx7, hy7, -, hb⟩
  have hR7 := chain hR (chain (HAL9.out _) hb)
  have HX7 := Lib.hid (fun W (hW : Below w7.heap.size w7 W) => show Wrs W.heap.size W x7 [⟨1, 6⟩] from ((Rw.own hx7 (Nat.le_refl _)).below hW).more hW.size)
  have HY7 := Lib.hid (fun W (hW : Below w7.heap.size w7 W) => show Ints W.heap.size W y7 [7, 5] from ((Rw.own hy7 (Nat.le_refl _)).below hW).more hW.size)
  obtain ⟨A7, c7, rfl⟩ := own_slice hx7
  obtain ⟨A8, c8, rfl⟩ := own_slice hy7
  clear hb hn7 hx7 hy7 HL1 HL0 HV0 HV2 HD hR
  have hS : Below w7.heap.size w7 w7 := Below.refl _ _
  go_wp2_with fail
  refine (HD0.out _).mono ?_
  rintro e w8 ⟨x8, y8, n8, rfl, -, -, -, -, hb⟩
  replace hS := chain hS (chain (HAL7.out _) hb)
  clear hb HD0
  have HSM := Lib.hid (fun W (hW : Below w7.heap.size w7 W) => same_any (W.alloc (.cells #[.int .i64 1, .int .i64 6] 24)) (((HX7.out W hW).below ((Below.refl _ _).alloc (Nat.le_refl _) _)).more (Nat.le_succ _)) (lit_wrs W [⟨1, 6⟩] (by decide)) (by simp))
  have HSI := Lib.hid (fun W (hW : Below w7.heap.size w7 W) => sameints_any (W.alloc (.cells #[.int .i64 7, .int .i64 5] 3)) (((HY7.out W hW).below ((Below.refl _ _).alloc (Nat.le_refl _) _)).more (Nat.le_succ _)) (lit_ints W [7, 5] (by decide)) (by simp))
  have HAX := Lib.hid (fun (W : World) o => below_al (Below.refl W.heap.size W) o)
  clear HX7 HY7
  go_wp2_with fail
  refine (HSM.out _ hS).mono ?_
  rintro e w9 ⟨rfl, hb⟩
  replace hS := chain hS (chain (HAX.out _ _) hb)
  clear hb HSM
  go_wp2_with fail
  refine (HSI.out _ hS).mono ?_
  rintro e w10 ⟨rfl, hb⟩
  replace hS := chain hS (chain (HAX.out _ _) hb)
  clear hb HSI
  have hR := chain hR7 hS
  clear hR7 hS
  go_wp2_with fail
  refine (HAL.out _ hR).mono ?_
  rintro e w11 ⟨y11, rfl, ho11, hb⟩
  have hR11 := chain hR (chain (HAL9.out _) hb)
  have HLA := Lib.hid (sameints_any (w11.alloc (.cells #[.int .i64 7, .int .i64 6] 3)) (B := w11.heap.size + 1) (((Rw.own ho11 (Nat.le_refl _)).below ((Below.refl _ _).alloc (Nat.le_refl _) _)).more (Nat.le_succ _)) (lit_ints w11 [7, 6] (by decide)) (by simp))
  obtain ⟨A11, c11, rfl⟩ := own_slice ho11
  clear HAL hb ho11 hR
  go_wp2_with fail
  refine HLA.out.mono ?_
  rintro e w12 ⟨rfl, hb⟩
  have hE := chain hB (chain hR11 (chain (HAX.out _ _) hb))
  clear HLA hb hR11
  go_wp2
  go_ret
  exact ⟨rfl, hE⟩
def GrRet (b : List Wr) (m : List Int) (w : World) (e : Ending) (w' : World) : Prop := ∃ g, e = .returned (.bool g) ∧ (g = false → b.length ≤ 300 ∧ m.length ≤ 300) ∧ Below w.heap.size w w'
set_option maxHeartbeats 1000000 in
set_option maxRecDepth 100000 in
theorem bgreat_any {B : Nat} {v u : Value} {b : List Wr} {m : List Int} (w : World) (hv : Wrs B w v b) (hu : Ints B w u m) :
    Calls Try.prog 10 #[v, u] w (GrRet b m w) := by
  obtain ⟨A1, c1, rfl, g1, g2, -⟩ := hv
  obtain ⟨A2, c2, rfl, q1, q2, -⟩ := hu
  unfold maxLen at g2 q2
  go_enter Try.func10, Try.ntmps10
  go_wp2
  · go_ret
    refine ⟨decide (300 < (b.length : Int)) || decide (300 < (m.length : Int)), rfl, fun h => ?_, Below.refl _ _⟩
    rw [Bool.or_eq_false_iff, decide_eq_false_iff_not, decide_eq_false_iff_not] at h
    omega
  · go_ret
    exact ⟨true, rfl, fun h => (by cases h), Below.refl _ _⟩
end Go.Proofs.Ytnfdaajbfheocaa
