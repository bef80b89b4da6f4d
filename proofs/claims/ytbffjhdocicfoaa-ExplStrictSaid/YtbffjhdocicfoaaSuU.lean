/-
  buf.Push: a new row with the write behind.
-/
import Derived.Test.YtbffjhdocicfoaaK15
namespace Go.Proofs.Ytbffjhdocicfoaa
open Go.RowKit
set_option linter.unusedVariables false
set_option linter.unusedSimpArgs false
open BfM

set_option maxHeartbeats 4000000 in
set_option maxRecDepth 100000 in
theorem bpush_any {B : Nat} {v : Value} {b : List Wr} (x : Wr) (w : World) (hv : WrR B w v b) (hBB : B ≤ w.heap.size) (hl : b.length ≤ 1000000) :
    Calls Try.prog 87 #[v, .agg #[.int .i64 x.loc, .int .i64 x.n]] w fun e w' => ∃ u, e = .returned u ∧ OwnW w.heap.size w' u (b ++ [x]) ∧ Below w.heap.size w w' := by
  obtain ⟨A, c, rfl, h1, h2, h0, h3⟩ := hv
  obtain ⟨l, n⟩ := x
  unfold maxLen at h2
  obtain ⟨i0, hi0, hz0, hz1, hz2⟩ := info_parts info_wr
  have hsz := show (Try.prog.info? 135).map (·.size) = some 2 from by rw [hi0]; simp [hz1]
  have hB1 := below_al (Below.refl w.heap.size w) (.cells #[.int .i64 l, .int .i64 n] 135)
  have hx0 : (w.alloc (.cells #[.int .i64 l, .int .i64 n] 135)).cell? ⟨w.heap.size, 0, none⟩ = some (.int .i64 l) := by rw [World.cell?_alloc_at _ _ _ _ rfl]; rfl
  have hx1 : (w.alloc (.cells #[.int .i64 l, .int .i64 n] 135)).cell? ⟨w.heap.size, 1, none⟩ = some (.int .i64 n) := by rw [World.cell?_alloc_at _ _ _ _ rfl]; rfl
  obtain ⟨w1, hw1⟩ : ∃ W, W = w.alloc (.cells #[.int .i64 l, .int .i64 n] 135) := ⟨_, rfl⟩
  rw [← hw1] at hB1 hx0 hx1
  obtain ⟨w2, hmk, hown2, hgr2⟩ := run_makeSlice_full (P := Try.prog) (w := w1) w1.heap.size 166 135 i0 (.agg #[.int .i64 0, .int .i64 0]) 2 Try.underlying166 hi0 hz0 hz1 .i64 .i64 (b.length + 1) (by omega) (by rw [hz2]; omega) (by unfold maxLen; omega) (Nat.le_refl _)
  have hB2 : Below w1.heap.size w1 w2 := (Below.refl _ w1).grown hgr2 (Nat.le_refl _) (fun r e => by cases e)
  have hB02 := chain hB1 hB2
  replace hx0 := kc hB2 hx0
  replace hx1 := kc hB2 hx1
  have HC := Lib.hid (src_rw wrC_len h0 h3 (hB02.mono hBB))
  have hn0 := h0
  clear h0 h3
  rcases id hown2.2 with ⟨e, _⟩ | ⟨g, cap, cur, e, hbg, hg, hnc, hcm, hcs, htake⟩
  · cases e
  injection e with e1 e2 e3
  injection e1 with e1
  injection e1 with e1
  rw [e1] at hmk
  have hgl := (Array.getElem?_eq_some_iff.1 hg).1
  have hgw : w.heap.size < g := by have : w.heap.size < w1.heap.size := by rw [hw1]; simp
                                   omega
  have hcs' : cur.size = (b.length + 1) * 2 := by rw [hcs, ← e3]
  have HL := fl_len wrC_len b
  obtain ⟨X, hX⟩ : ∃ X, X = b.flatMap wrC := ⟨_, rfl⟩
  obtain ⟨R, hR⟩ : ∃ R, R = cur.toList.drop X.length := ⟨_, rfl⟩
  have hXl : X.length = b.length * 2 := by rw [hX]; exact HL
  have hRl : R.length = 2 := by rw [hR, List.length_drop, Array.length_toList, hcs', hXl]; omega
  obtain ⟨r0, r1, rfl⟩ : ∃ r0 r1, R = [r0, r1] := by
    match R, hRl with
    | [x, y], _ => exact ⟨x, y, rfl⟩
  obtain ⟨w3, hw3⟩ : ∃ W, W = w2.setRow g (X ++ cur.toList.drop X.length).toArray := ⟨_, rfl⟩
  have hg3 : w3.heap[g]? = some (.cells (X ++ [r0, r1]).toArray 135 (0, 0)) := by
    rw [hw3, hR]; exact setRow_heap w2 g cur _ _ _ hg
  have hB3 : Below w1.heap.size w1 w3 := by rw [hw3]; exact below_setRow hB2 hbg _
  have hwl : w.heap.size < w1.heap.size := by rw [hw1]; simp
  have hy0 : w3.cell? ⟨w.heap.size, 0, none⟩ = some (.int .i64 l) := by rw [hw3]; exact (cell_setRow_other _ _ _ _ (by show w.heap.size ≠ g; omega)).trans hx0
  have hy1 : w3.cell? ⟨w.heap.size, 1, none⟩ = some (.int .i64 n) := by rw [hw3]; exact (cell_setRow_other _ _ _ _ (by show w.heap.size ≠ g; omega)).trans hx1
  have HO3 := Lib.hid (show w3.ownsRow w1.heap.size 135 2 (.slice (some ⟨g, 0, none⟩) (b.length + 1) (b.length + 1)) (b.length + 1) (X ++ [r0, r1]) from
    ⟨by simp [hXl]; omega, .inr ⟨g, b.length + 1, _, rfl, hbg, hg3, Nat.le_refl _, by unfold maxLen; omega, by simp [hXl]; omega, List.take_of_length_le (by simp [hXl]; omega)⟩⟩)
  have hz0 : w3.cell? ⟨g, b.length * 2, none⟩ = some r0 := by rw [HO3.out.cellAt _ (by omega), List.getElem?_append_right (by omega), hXl, Nat.sub_self]; rfl
  have hz1 : w3.cell? ⟨g, b.length * 2 + 1, none⟩ = some r1 := by rw [HO3.out.cellAt _ (by omega), List.getElem?_append_right (by omega), hXl]; simp
  have hf0 := HO3.out.frozenAt (b.length * 2)
  have hf1 := HO3.out.frozenAt (b.length * 2 + 1)
  have HO4 := Lib.hid (HO3.out.stored (b.length * 2) (.int .i64 l)).1
  have HO5 := Lib.hid (HO4.out.stored (b.length * 2 + 1) (.int .i64 n)).1
  have HXE := Lib.hid (show ((X ++ [r0, r1]).set (b.length * 2) (.int .i64 l)).set (b.length * 2 + 1) (.int .i64 n) = (b ++ [(⟨l, n⟩ : Wr)]).flatMap wrC from by
    rw [List.flatMap_append, ← hX, ← hXl, List.set_append_right _ _ (Nat.le_refl _), Nat.sub_self, List.set_append_right _ _ (by omega), Nat.add_sub_cancel_left]; rfl)
  have HB5 := Lib.hid (((hB1.trans (hB3.mono (by omega))).setCell (p := ⟨g, b.length * 2, none⟩) (by show _ ≤ g; omega) (.int .i64 l)).setCell (p := ⟨g, b.length * 2 + 1, none⟩) (by show _ ≤ g; omega) (.int .i64 n))
  have HW3 := Lib.hid hw3.symm
  have HMK := hmk
  rw [hw1] at hmk
  rw [show ((b.length + 1 : Nat) : Int) = (b.length : Int) + 1 from by omega] at hmk
  have HXL := Lib.hid (show X.length = Nat.min b.length (b.length + 1) * 2 from by rw [hXl]; congr 1; exact (Nat.min_eq_left (Nat.le_succ _)).symm)
  have HSRC := Lib.hid (show ∀ ad, A = some ad → ∀ j v, X[j]? = some v → w2.cell? (ad.add j) = some v from hX ▸ HC.out)
  have HNO := Lib.hid (show A = none → X = [] from fun e => List.eq_nil_of_length_eq_zero (by rw [hXl, (hn0 e).1]))
  have HFIT := Lib.hid (show X.length ≤ cur.size from by omega)
  have HONE := Lib.hid (show ∀ v ∈ X, v.oneCell' = true from hX ▸ one_w b)
  have HG2 := Lib.hid hg
  clear hw1 HMK hX hR hw3 hg3 hg hn0 HC HL hXl hRl hB1 hB2 hB3 hB02 hx0 hx1 hown2 hgr2 hcs hcs' hnc hcm htake e1 e2 e3 hbg
  go_enter Try.func87, Try.ntmps87
  go_wp2_with (refine wpList_copy_s rfl (.tmp 10) (.tmp 11) 166 92 rfl 135 Try.underlying166 2 hsz g (b.length + 1) (b.length + 1) A b.length c rfl rfl cur 135 HG2.out X HXL.out HNO.out HSRC.out HFIT.out HONE.out ?_; rw [HW3.out])
  go_ret
  refine ⟨_, rfl, ?_, HB5.out⟩
  have := own_base HO5.out (Nat.le_of_lt hwl)
  rw [HXE.out] at this
  unfold OwnW; rw [List.length_append]; exact this
end Go.Proofs.Ytbffjhdocicfoaa
