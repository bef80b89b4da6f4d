/-
  slices.Clone over numbers and writes.
-/
import Derived.Test.YtnfdaajbfheocaaBfL
namespace Go.Proofs.Ytnfdaajbfheocaa
open Go.RowKit
set_option linter.unusedVariables false
set_option linter.unusedSimpArgs false
open BfM

set_option maxHeartbeats 4000000 in
set_option maxRecDepth 100000 in
theorem clonei_any {B : Nat} {v : Value} {l : List Int} (w : World) (hv : Ints B w v l) (hBB : B ≤ w.heap.size) (hl : l.length ≤ 1000000) :
    Calls Try.prog 25 #[v] w fun e w' => ∃ u, e = .returned u ∧ OwnI w.heap.size w' u l ∧ Below w.heap.size w w' := by
  obtain ⟨A, c, rfl, h1, h2, h0, h3⟩ := hv
  unfold maxLen at h2
  obtain ⟨i0, hi0, hz0, hz1, hz2⟩ := info_parts info_int
  have heq := fun (W : World) (a : Option Addr) (n c : Nat) => Lib.run_eql_slice_nil (P := Try.prog) W 25 3 a n c 0 0 Try.underlying25
  cases A with
  | none =>
    have HE := Lib.hid (List.eq_nil_of_length_eq_zero (h0 rfl).1)
    clear h0 h1 h2 h3
    go_enter Try.func25, Try.ntmps25
    go_wp2
    go_ret
    unfold OwnI
    rw [HE.out]
    exact ⟨_, rfl, World.ownsRow_nil _ _ _ _, Below.refl _ _⟩
  | some ad =>
    have hB1 := below_al (Below.refl w.heap.size w) (.cells #[] 3)
    have HC := Lib.hid (src_at inC_len h0 h3 (hB1.mono hBB) _ rfl)
    have HL := Lib.hid (flat_len inC_len l)
    have HO := Lib.hid (show (w.alloc (.cells #[] 3)).ownsRow w.heap.size 3 1 (.slice (some ⟨w.heap.size, 0, none⟩) 0 0) 0 [] from by
      have := World.ownsRow_lit (base := w.heap.size) (e := 3) (size := 1) w #[] 0 (Nat.le_refl _) (by decide) rfl
      simpa using this)
    have HON := Lib.hid (one_i l)
    clear h3 h0
    go_enter Try.func25, Try.ntmps25
    go_wp2_with (at_builtin; refine wpList_append_own _ rfl _ _ 25 rfl w.heap.size 3 i0 (.int .i64 0) 1 8 Try.underlying25 hi0 hz0 hz1 hz2 rfl (by decide) _ 0 [] rfl HO.out ad l.length c (l.flatMap inC) rfl HL.out HC.out HON.out (by unfold maxLen; omega) (by omega) (by simp) ?_; intro v1 w1 hown1 hg1 _; obtain ⟨A8, c8, rfl⟩ := own_slice hown1)
    go_ret
    simp only [Nat.zero_add, List.nil_append] at hown1
    refine ⟨_, rfl, hown1, below_append hB1 HO.out (Nat.le_refl _) (by simp) hg1⟩
set_option maxHeartbeats 4000000 in
set_option maxRecDepth 100000 in
theorem clonew_any {B : Nat} {v : Value} {l : List Wr} (w : World) (hv : Wrs B w v l) (hBB : B ≤ w.heap.size) (hl : l.length ≤ 1000000) :
    Calls Try.prog 27 #[v] w fun e w' => ∃ u, e = .returned u ∧ OwnW w.heap.size w' u l ∧ Below w.heap.size w w' := by
  obtain ⟨A, c, rfl, h1, h2, h0, h3⟩ := hv
  unfold maxLen at h2
  obtain ⟨i0, hi0, hz0, hz1, hz2⟩ := info_parts info_wr
  have heq := fun (W : World) (a : Option Addr) (n c : Nat) => Lib.run_eql_slice_nil (P := Try.prog) W 22 24 a n c 0 0 Try.underlying22
  cases A with
  | none =>
    have HE := Lib.hid (List.eq_nil_of_length_eq_zero (h0 rfl).1)
    clear h0 h1 h2 h3
    go_enter Try.func27, Try.ntmps27
    go_wp2
    go_ret
    unfold OwnW
    rw [HE.out]
    exact ⟨_, rfl, World.ownsRow_nil _ _ _ _, Below.refl _ _⟩
  | some ad =>
    have hB1 := below_al (Below.refl w.heap.size w) (.cells #[] 24)
    have HC := Lib.hid (src_at wrC_len h0 h3 (hB1.mono hBB) _ rfl)
    have HL := Lib.hid (flat_len wrC_len l)
    have HO := Lib.hid (show (w.alloc (.cells #[] 24)).ownsRow w.heap.size 24 2 (.slice (some ⟨w.heap.size, 0, none⟩) 0 0) 0 [] from by
      have := World.ownsRow_lit (base := w.heap.size) (e := 24) (size := 2) w #[] 0 (Nat.le_refl _) (by decide) rfl
      simpa using this)
    have HON := Lib.hid (one_w l)
    clear h3 h0
    go_enter Try.func27, Try.ntmps27
    go_wp2_with (at_builtin; refine wpList_append_own _ rfl _ _ 22 rfl w.heap.size 24 i0 (.agg #[.int .i64 0, .int .i64 0]) 2 16 Try.underlying22 hi0 hz0 hz1 hz2 rfl (by decide) _ 0 [] rfl HO.out ad l.length c (l.flatMap wrC) rfl HL.out HC.out HON.out (by unfold maxLen; omega) (by omega) (by simp) ?_; intro v1 w1 hown1 hg1 _; obtain ⟨A8, c8, rfl⟩ := own_slice hown1)
    go_ret
    simp only [Nat.zero_add, List.nil_append] at hown1
    refine ⟨_, rfl, hown1, below_append hB1 HO.out (Nat.le_refl _) (by simp) hg1⟩
end Go.Proofs.Ytnfdaajbfheocaa
