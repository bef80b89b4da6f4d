/-
  slots.with[fencepost/api.Step]: each thread's steps, with one more ahead of those that are told.
  slots.without[fencepost/api.Line]: each thread's lines, without those that are told.
  slices.Clone over numbers, cells, atoms; slots.jump, landing, linesOf.
  MATHEMATICS OF LAYER 8: the places that an iterator goes through, in order.
-/
import Derived.Test.YtaelfjphgdlbcaaM05
import Derived.Deep.RegionHeld3
import Derived.Deep.DeepCutAuto
import Derived.Maps.OwnSet
namespace Go.Proofs.Ytaelfjphgdlbcaa
open Go.RowKit
set_option linter.unusedVariables false
set_option linter.unusedSimpArgs false
open CodM (St Pg)
open SlM
theorem info_row : (Try.prog.info? 50).map (fun i => (i.zero, i.size, i.bytes)) = some (some (.slice none 0 0), 1, 24) := by kernel_rfl
theorem info_stp : (Try.prog.info? 53).map (fun i => (i.zero, i.size, i.bytes)) = some (some (.agg #[.int .i64 0, .int .i64 0, .int .i64 0, .int .i64 0, .int .i64 0]), 5, 40) := by kernel_rfl
theorem info_lrow : (Try.prog.info? 56).map (fun i => (i.zero, i.size, i.bytes)) = some (some (.slice none 0 0), 1, 24) := by kernel_rfl
theorem info_lne : (Try.prog.info? 60).map (fun i => (i.zero, i.size, i.bytes)) = some (some (.agg #[.int .i64 0, .string ⟨#[]⟩, .string ⟨#[]⟩, .string ⟨#[]⟩, .int .i64 0]), 5, 64) := by kernel_rfl
theorem made_rows (n : Nat) : (madeCells (Value.cells (.slice none 0 0)) (n * 1)).toList = List.replicate n (.slice none 0 0) := by
  rw [Nat.mul_one]; exact toList_madeCells_one _ _
def WSRel (w1 : World) (gm : Nat) (f : Int → Int → Bool) (x : St) (ths : List (List St)) (i : Value) (wr : World) : Prop :=
  ∃ (j : Nat) (vs : List Value) (gy : Nat) (yv : List Value), j ≤ ths.length ∧ i = .int .i64 j ∧ WS w1 53 50 stsCs gm ths.length gy yv vs vs (rowsAt (fun (t : Nat) => wthN (fun q => f (t : Int) (q : Int)) x (ths.getD t []) (ths.getD t []).length) [] ths.length j) wr
def VSRel (w1 : World) (gm : Nat) (f : Int → Int → Bool) (x : St) (ths : List (List St)) (ss : List St) (j : Nat) (i : Value) (wr : World) : Prop :=
  ∃ (k : Nat) (vs : List Value) (gy : Nat) (yv : List Value), k ≤ ss.length ∧ i = .int .i64 k ∧ WS w1 53 50 stsCs gm ths.length gy yv vs vs (rowsAt (fun (t : Nat) => wthN (fun q => f (t : Int) (q : Int)) x (ths.getD t []) (ths.getD t []).length) (wthN (fun q => f (j : Int) (q : Int)) x ss k) ths.length j) wr
set_option maxHeartbeats 8000000 in
set_option maxRecDepth 100000 in
theorem withs_any {B bp N : Nat} {v : Value} {ths : List (List St)} {f : Int → Int → Bool} (x : St) (w : World) (hv : Sss B w v ths) (hBB : B ≤ w.heap.size) (hm : MapP w bp N f) (hbp : bp < w.heap.size) (hl : ths.length ≤ 1000000) (hll : ∀ ss ∈ ths, ss.length ≤ 1000000) :
    Calls Try.prog 48 #[v, .map (some bp), .agg #[.int .i64 x.op, .int .i64 x.reg, .int .i64 x.loc, .int .i64 x.n, .int .i64 x.to]] w fun e w' => ∃ b vs, e = .returned (.slice (some ⟨b, 0, none⟩) ths.length ths.length) ∧ w'.ownsRow w.heap.size 50 1 (.slice (some ⟨b, 0, none⟩) ths.length ths.length) ths.length vs ∧
      RowsA w' w.heap.size 53 stsCs vs ((List.range ths.length).map (fun (t : Nat) => wthN (fun q => f (t : Int) (q : Int)) x (ths.getD t []) (ths.getD t []).length)) ∧ Below w.heap.size w w' := by
  have HLL := Lib.hid (fun (t : Nat) (ht : t < ths.length) => hll ths[t] (List.getElem_mem ht))
  obtain ⟨w1, hw1⟩ : ∃ W, W = w.alloc (.cells #[.int .i64 x.op, .int .i64 x.reg, .int .i64 x.loc, .int .i64 x.n, .int .i64 x.to] 53) := ⟨_, rfl⟩
  have hb1 : Below w.heap.size w w1 := by rw [hw1]; exact below_al (Below.refl _ w) _
  have HV := Lib.hid (hv.below (hb1.mono hBB))
  have HM1 := Lib.hid (hm.below hb1 hbp)
  have hbp1 : bp < w1.heap.size := Nat.lt_of_lt_of_le hbp hb1.size
  have hB1 : B ≤ w1.heap.size := Nat.le_trans hBB hb1.size
  have HX1 := Lib.hid (show StAt w1 w.heap.size 0 x from by
    rw [hw1]
    refine ⟨?_, ?_, ?_, ?_, ?_⟩ <;> (rw [World.cell?_alloc_at _ _ _ _ rfl]; rfl))
  obtain ⟨A0, c0, rfl, hc1, hc2, -⟩ := hv
  obtain ⟨A', c', e', -, -, hc3⟩ := HV.out
  simp only [Value.slice.injEq, true_and] at e'
  obtain ⟨rfl, rfl⟩ := e'
  unfold maxLen at hc2
  obtain ⟨ii, hii, hiz, his, hib⟩ := info_parts info_row
  obtain ⟨i0, hi0, hz0, hz1, hz2⟩ := info_parts info_stp
  obtain ⟨w2, hmk, hown2, hgr2⟩ := run_makeSlice_full (P := Try.prog) (w := w1) w1.heap.size 23 50 ii (.slice none 0 0) 1 Try.underlying23 hii hiz his .i64 .i64 ths.length (by omega) (by rw [hib]; omega) (by unfold maxLen; omega) (Nat.le_refl _)
  rw [made_rows] at hown2
  have hB2 : Below w1.heap.size w1 w2 := ⟨hgr2.os, hgr2.tape, hgr2.output, hgr2.size, fun k hk => hgr2.block k hk (by simp)⟩
  obtain ⟨gm, hgm⟩ : ∃ g, g = w1.heap.size := ⟨_, rfl⟩
  rw [← hgm] at hmk
  have HST := Lib.hid (show WS w1 53 50 stsCs gm ths.length bp [] (List.replicate ths.length (.slice none 0 0)) (List.replicate ths.length (.slice none 0 0)) (rowsAt (fun (t : Nat) => wthN (fun q => f (t : Int) (q : Int)) x (ths.getD t []) (ths.getD t []).length) [] ths.length 0) w2 from by
    rw [rowsAt_zero, hgm]
    exact ⟨hown2, RowsA.made _ _ _ _ rfl _, fun i v h => (by cases h), ⟨(by omega), fun j u h => by
      rw [List.getElem?_replicate] at h
      split at h
      · injection h with h; subst h; simp [Value.ownBlock]
      · cases h⟩, Nat.lt_of_lt_of_le hbp1 hB2.size, hB2⟩)
  have HBS := Lib.hid hb1
  rw [hw1] at hmk
  have HW1 := Lib.hid hw1
  clear hw1 hb1 hown2 hgr2 hB2 hgm
  go_enter Try.func48, Try.ntmps48
  go_wp2
  go_loopw [17] (fun i wr => WSRel w1 gm f x ths i wr) (fun i _ => ths.length - (intOf i).toNat)
  case atStart => exact ⟨0, _, bp, [], Nat.zero_le _, rfl, HST.out⟩
  case round =>
    obtain ⟨j, vs, gy0, yv, hj, rfl, hW⟩ := hrel
    by_cases hlt : j < ths.length
    · obtain ⟨b1, f1, rfl, hb1, hcl⟩ := hc3 (by omega)
      obtain ⟨vv, hvs, hsts⟩ := hcl j hlt
      have hvs' := (hW.below.cell (p := ⟨b1, f1 + j, none⟩) (show b1 < _ by omega)).trans hvs
      obtain ⟨A1, c1, rfl, hd1, hd2, hd3⟩ := hsts
      have hlen := HLL.out j hlt
      unfold maxLen at hd2
      have HFU := Lib.hid (show rowsAt (fun (t : Nat) => wthN (fun q => f (t : Int) (q : Int)) x (ths.getD t []) (ths.getD t []).length) (wthN (fun q => f (j : Int) (q : Int)) x ths[j] ths[j].length) ths.length j = rowsAt (fun (t : Nat) => wthN (fun q => f (t : Int) (q : Int)) x (ths.getD t []) (ths.getD t []).length) [] ths.length (j + 1) by rw [← rowsAt_next]; simp only [SlM.getD_at hlt])
      generalize ths[j] = ss at *
      clear hcl hvs
      go_wp2
      go_loopw [24] (fun i wr => VSRel w1 gm f x ths ss j i wr) (fun i _ => ss.length - (intOf i).toNat)
      case atStart => exact ⟨0, vs, gy0, yv, Nat.zero_le _, rfl, hW⟩
      case round =>
        clear hW hvs'
        obtain ⟨k, vs, gy0, yv, hk, rfl, hW⟩ := hrel
        by_cases hlt2 : k < ss.length
        · obtain ⟨b2, f2, rfl, hb2, hst⟩ := hd3 (by omega)
          obtain ⟨z0, z1, z2, z3, z4⟩ := (hst k hlt2).below hW.below (by omega)
          have HPN := Lib.hid ((show wthN (fun q => f (j : Int) (q : Int)) x ss (k + 1) = wthN (fun q => f (j : Int) (q : Int)) x ss k ++ ((if f (j : Int) (k : Int) then [x] else []) ++ [ss[k]]) from wthN_next _ x ss k hlt2))
          generalize ss[k] = y at *
          clear hst
          have hws := hW.below.size
          have hb2' : b2 < wr.heap.size := by omega
          have wj : (Lit.int .i64 (j : Int)).wf = true := WalkArith.wf_i64 (by omega)
          have wk : (Lit.int .i64 (k : Int)).wf = true := WalkArith.wf_i64 (by omega)
          have HMw := Lib.hid ((HM1.out.below hW.below (by omega)).kept (World.grownBy_alloc wr (.cells #[.int .i64 y.op, .int .i64 y.reg, .int .i64 y.loc, .int .i64 y.n, .int .i64 y.to] 53) none) (by simp))
          have HW0 := Lib.hid (hW.box [.int .i64 y.op, .int .i64 y.reg, .int .i64 y.loc, .int .i64 y.n, .int .i64 y.to] 53)
          obtain ⟨fk, hfk⟩ : ∃ b, f (j : Int) (k : Int) = b := ⟨_, rfl⟩
          go_upto_if 33 with (at_lookup; refine at_mapP _ rfl _ _ rfl bp N _ rfl HMw.out (j : Int) (k : Int) rfl wj wk ?_; rw [hfk]; go_frame)
          have hlk : (wthN (fun q => f (j : Int) (q : Int)) x ss k).length ≤ 2000000 := by have := wthN_len (fun q => f (j : Int) (q : Int)) x ss k; omega
          generalize wthN (fun q => f (j : Int) (q : Int)) x ss k = pt at *
          obtain ⟨gy, hgy⟩ : ∃ g, g = wr.heap.size := ⟨_, rfl⟩
          obtain ⟨WW, hWW⟩ : ∃ W, W = wr.alloc (.cells #[.int .i64 y.op, .int .i64 y.reg, .int .i64 y.loc, .int .i64 y.n, .int .i64 y.to] 53) := ⟨_, rfl⟩
          have HW0 := Lib.hid (show WS w1 53 50 stsCs gm ths.length gy (stCs y) vs vs (rowsAt (fun (t : Nat) => wthN (fun q => f (t : Int) (q : Int)) x (ths.getD t []) (ths.getD t []).length) pt ths.length j) WW from by rw [hgy, hWW]; exact HW0.out)
          rw [← hWW, ← hgy]
          rw [hfk] at HPN
          clear hWW hgy HMw hW z0 z1 z2 z3 z4 hws hb2' wj wk hfk
          go_cut [] (fun wx => ∃ vs', WS w1 53 50 stsCs gm ths.length gy (stCs y) vs' vs' (rowsAt (fun (t : Nat) => wthN (fun q => f (t : Int) (q : Int)) x (ths.getD t []) (ths.getD t []).length) (pt ++ (if fk then [x] else [])) ths.length j) wx)
          case first =>
            cases fk
            · go_wp2_with fail
              go_meet
              exact ⟨vs, by simpa using HW0.out⟩
            · go_upto_region 9 with fail
              obtain ⟨Au, cu, huM, hOW⟩ := HW0.out.row hlt
              generalize hN : pt.length = N at huM hOW
              have HNL := Lib.hid (show (pt ++ [x]).length = N + 1 by simp [hN])
              have HCS := Lib.hid (show stsCs (pt ++ [x]) = stsCs pt ++ stCs x by rw [stsCs_app]; rfl)
              have hNb : N ≤ 3000000 := by omega
              have HRS := Lib.hid (fun q => rowsAt_set (fun (t : Nat) => wthN (fun q => f (t : Int) (q : Int)) x (ths.getD t []) (ths.getD t []).length) pt q hlt)
              have HOW := Lib.hid hOW
              have HON := Lib.hid (show ∀ u ∈ stCs x, u.oneCell' = true from fun u hu => stsCs_one [x] u (by simpa [stsCs] using hu))
              have HP := Lib.hid (fun (vm vr : List Value) (xss : List (List St)) (W : World) (h : WS w1 53 50 stsCs gm ths.length gy (stCs y) vm vr xss W) => (show ((W.cell? ⟨w.heap.size, 0, none⟩ = some (.int .i64 x.op) ∧ W.cell? ⟨w.heap.size, 1, none⟩ = some (.int .i64 x.reg) ∧ W.cell? ⟨w.heap.size, 2, none⟩ = some (.int .i64 x.loc) ∧ W.cell? ⟨w.heap.size, 3, none⟩ = some (.int .i64 x.n) ∧ W.cell? ⟨w.heap.size, 4, none⟩ = some (.int .i64 x.to)) ∧ Below w1.heap.size w1 W) from ⟨⟨kc h.below HX1.out.1, kc h.below HX1.out.2.1, kc h.below HX1.out.2.2.1, kc h.below HX1.out.2.2.2.1, kc h.below HX1.out.2.2.2.2⟩, h.below⟩))
              have hzt : (0 : Int) ≤ (j : Int) := by omega
              have hzt2 : (j : Int) < (ths.length : Int) := by omega
              have hjn := hlt
              obtain ⟨RS, hRS⟩ : ∃ r, r = rowsAt (fun (t : Nat) => wthN (fun q => f (t : Int) (q : Int)) x (ths.getD t []) (ths.getD t []).length) pt ths.length j := ⟨_, rfl⟩
              rw [← hRS] at HW0 HRS HOW
              clear hOW hN hRS
              refine wp_region_held_drew (S := (fun w' => (w'.cell? ⟨w.heap.size, 0, none⟩ = some (.int .i64 x.op) ∧ w'.cell? ⟨w.heap.size, 1, none⟩ = some (.int .i64 x.reg) ∧ w'.cell? ⟨w.heap.size, 2, none⟩ = some (.int .i64 x.loc) ∧ w'.cell? ⟨w.heap.size, 3, none⟩ = some (.int .i64 x.n) ∧ w'.cell? ⟨w.heap.size, 4, none⟩ = some (.int .i64 x.to)) ∧ Below w1.heap.size w1 w')) (by kernel_rfl) (HP.out _ _ _ _ HW0.out.drew) (fun hHeld => ?_)
              obtain ⟨X0, hX0⟩ : ∃ W, W = WW.drew := ⟨_, rfl⟩
              have HWX0 := Lib.hid (show WS w1 53 50 stsCs gm ths.length gy (stCs y) vs vs RS X0 from by rw [hX0]; exact HW0.out.drew)
              rw [← hX0] at hHeld ⊢
              clear hX0
              refine wpAnyH_take (i := 0) (v := ?_) rfl (by kernel_rfl) (by kernel_rfl) (by kernel_rfl) (fun _ _ _ h => h) (Or.inl ⟨by rfl, ?_⟩) (by assumption) ?_
              rotate_left
              · intro w hSw; (try dsimp only at hSw); go_simp; (try with_reducible rfl)
              (try simp only [Act.put, List.getElem_toArray, List.getElem_cons_zero, List.getElem_cons_succ, Array.getInternal_eq_getElem, List.setIfInBounds_toArray, List.set_cons_zero, List.set_cons_succ])
              refine wpAnyH_take (i := 1) (v := ?_) rfl (by kernel_rfl) (by kernel_rfl) (by kernel_rfl) (fun _ _ _ h => h) (Or.inl ⟨by rfl, ?_⟩) (by assumption) ?_
              rotate_left
              · intro w hSw; (try dsimp only at hSw); go_simp; (try with_reducible rfl)
              (try simp only [Act.put, List.getElem_toArray, List.getElem_cons_zero, List.getElem_cons_succ, Array.getInternal_eq_getElem, List.setIfInBounds_toArray, List.set_cons_zero, List.set_cons_succ])
              refine wpAnyH_take (i := 2) (v := ?_) rfl (by kernel_rfl) (by kernel_rfl) (by kernel_rfl) (fun _ _ _ h => h) (Or.inl ⟨by rfl, ?_⟩) (by assumption) ?_
              rotate_left
              · intro w hSw; (try dsimp only at hSw); go_simp; (try with_reducible rfl)
              (try simp only [Act.put, List.getElem_toArray, List.getElem_cons_zero, List.getElem_cons_succ, Array.getInternal_eq_getElem, List.setIfInBounds_toArray, List.set_cons_zero, List.set_cons_succ])
              refine wpAnyH_take (i := 3) (v := ?_) rfl (by kernel_rfl) (by kernel_rfl) (by kernel_rfl) (fun _ _ _ h => h) (Or.inl ⟨by rfl, ?_⟩) (by assumption) ?_
              rotate_left
              · intro w hSw; (try dsimp only at hSw); go_simp; (try with_reducible rfl)
              (try simp only [Act.put, List.getElem_toArray, List.getElem_cons_zero, List.getElem_cons_succ, Array.getInternal_eq_getElem, List.setIfInBounds_toArray, List.set_cons_zero, List.set_cons_succ])
              refine wpAnyH_take (i := 4) (v := ?_) rfl (by kernel_rfl) (by kernel_rfl) (by kernel_rfl) (fun _ _ _ h => h) (Or.inl ⟨by rfl, ?_⟩) (by assumption) ?_
              rotate_left
              · intro w hSw; (try dsimp only at hSw); go_simp; (try with_reducible rfl)
              (try simp only [Act.put, List.getElem_toArray, List.getElem_cons_zero, List.getElem_cons_succ, Array.getInternal_eq_getElem, List.setIfInBounds_toArray, List.set_cons_zero, List.set_cons_succ])
              refine wpAnyH_take (i := 6) (v := ?_) rfl (by kernel_rfl) (by kernel_rfl) (by kernel_rfl) (fun _ _ _ h => h) (Or.inl ⟨by rfl, ?_⟩) (by assumption) ?_
              rotate_left
              · intro w hSw; (try dsimp only at hSw); go_simp; (try with_reducible rfl)
              (try simp only [Act.put, List.getElem_toArray, List.getElem_cons_zero, List.getElem_cons_succ, Array.getInternal_eq_getElem, List.setIfInBounds_toArray, List.set_cons_zero, List.set_cons_succ])
              refine wpAnyH_ready (rs := [5, 7]) (by kernel_rfl) (by simp) ?_
              refine AllReadyH.cons rfl (fun K hK => ?_) (AllReadyH.cons rfl (fun K hK => ?_) (AllReadyH.nil))
              · -- 5 first
                have c39 := HWX0.out.load hjn huM
                go_simp
                refine hK.out _ _ (HP.out _ _ _ _ HWX0.out) (fun hHeld => ?_)
                clear hK K
                (try simp only [Act.put, List.getElem_toArray, List.getElem_cons_zero, List.getElem_cons_succ, Array.getInternal_eq_getElem, List.setIfInBounds_toArray, List.set_cons_zero, List.set_cons_succ])
                clear c39
                refine wpAnyH_ready (rs := [7]) (by kernel_rfl) (by simp) ?_
                refine AllReadyH.cons rfl (fun K hK => ?_) AllReadyH.nil
                go_simp
                refine hK.out _ _ (HP.out _ _ _ _ (HWX0.out.alloc (.cells #[.int .i64 x.op, .int .i64 x.reg, .int .i64 x.loc, .int .i64 x.n, .int .i64 x.to] 53))) (fun hHeld => ?_)
                clear hK K
                (try simp only [Act.put, List.getElem_toArray, List.getElem_cons_zero, List.getElem_cons_succ, Array.getInternal_eq_getElem, List.setIfInBounds_toArray, List.set_cons_zero, List.set_cons_succ])
                obtain ⟨X7, hX7⟩ : ∃ W, W = X0.alloc (.cells #[.int .i64 x.op, .int .i64 x.reg, .int .i64 x.loc, .int .i64 x.n, .int .i64 x.to] 53) := ⟨_, rfl⟩
                have HWX7 := Lib.hid (show WS w1 53 50 stsCs gm ths.length gy (stCs y) vs vs RS X7 from by rw [hX7]; exact HWX0.out.alloc _)
                have HF := Lib.hid (fun (i : Nat) (u : Value) (h : (stCs x)[i]? = some u) => (show X7.cell? ⟨X0.heap.size, i, none⟩ = some u from by
                  have e := World.news_of_block (heap_alloc_new X0 (.cells #[.int .i64 x.op, .int .i64 x.reg, .int .i64 x.loc, .int .i64 x.n, .int .i64 x.to] 53)) i u h
                  rw [Addr.add_lit, Nat.zero_add] at e
                  rw [hX7]; exact e))
                rw [← hX7] at hHeld ⊢
                clear hX7
                refine wpAnyH_ready (rs := [8]) (by kernel_rfl) (by simp) ?_
                refine AllReadyH.cons rfl (fun K hK => ?_) AllReadyH.nil
                refine step_append_at (by rfl) _ _ _ (by rfl) w1.heap.size 53 i0 (.agg #[.int .i64 0, .int .i64 0, .int .i64 0, .int .i64 0, .int .i64 0]) 5 40 Try.underlying50 hi0 hz0 hz1 hz2 (by rfl) (by decide) _ N (stsCs pt) (by rfl) (HOW.out _ _ _ _ HWX7.out) ⟨X0.heap.size, 0, none⟩ 1 1 (stCs x) (by rfl) (by rfl) (fun i u h => by rw [Addr.add_lit, Nat.zero_add]; exact HF.out i u h) (HON.out) (by unfold maxLen; omega) (by omega) HWX7.out.below.size (fun v8 w8 hown8 hg8 hat8 => ?_)
                obtain ⟨A8, c8, rfl⟩ := own_slice hown8
                have HWw8 := Lib.hid (show WS w1 53 50 stsCs gm ths.length gy (stCs y) vs (vs.set j (.slice A8 (N + 1) c8)) (RS.set j (pt ++ [x])) w8 from HWX7.out.append (by decide) huM (by rw [HNL.out, HCS.out]; exact hown8) hg8 hat8)
                clear hown8 hg8 hat8 HF
                refine hK.out _ _ (HP.out _ _ _ _ HWw8.out) (fun hHeld => ?_)
                clear hK K
                (try simp only [Act.put, List.getElem_toArray, List.getElem_cons_zero, List.getElem_cons_succ, Array.getInternal_eq_getElem, List.setIfInBounds_toArray, List.set_cons_zero, List.set_cons_succ])
                refine wpAnyH_take (i := 9) (v := ?_) rfl (by kernel_rfl) (by kernel_rfl) (by kernel_rfl) (fun _ _ _ h => h) (Or.inl ⟨by rfl, ?_⟩) (by assumption) ?_
                rotate_left
                · intro w hSw; (try dsimp only at hSw); go_simp; (try with_reducible rfl)
                (try simp only [Act.put, List.getElem_toArray, List.getElem_cons_zero, List.getElem_cons_succ, Array.getInternal_eq_getElem, List.setIfInBounds_toArray, List.set_cons_zero, List.set_cons_succ])
                refine wpAnyH_ready (rs := [10]) (by kernel_rfl) (by simp) ?_
                refine AllReadyH.cons rfl (fun K hK => ?_) AllReadyH.nil
                have c9 := HWw8.out.load hjn huM
                have f9 := HWw8.out.frz j
                go_simp
                have HW9 := Lib.hid (HWw8.out.store (by decide) rfl)
                refine hK.out _ _ (HP.out _ _ _ _ HW9.out) (fun hHeld => ?_)
                clear hK K
                (try simp only [Act.put, List.getElem_toArray, List.getElem_cons_zero, List.getElem_cons_succ, Array.getInternal_eq_getElem, List.setIfInBounds_toArray, List.set_cons_zero, List.set_cons_succ])
                refine wpAnyH_done (by kernel_rfl) ?_ _
                clear c9 f9 hHeld
                go_wp2_with fail
                go_meet
                exact ⟨_, by simp only [if_true]; rw [← HRS.out]; exact HW9.out⟩
              · -- 7 first
                go_simp
                refine hK.out _ _ (HP.out _ _ _ _ (HWX0.out.alloc (.cells #[.int .i64 x.op, .int .i64 x.reg, .int .i64 x.loc, .int .i64 x.n, .int .i64 x.to] 53))) (fun hHeld => ?_)
                clear hK K
                (try simp only [Act.put, List.getElem_toArray, List.getElem_cons_zero, List.getElem_cons_succ, Array.getInternal_eq_getElem, List.setIfInBounds_toArray, List.set_cons_zero, List.set_cons_succ])
                obtain ⟨X7, hX7⟩ : ∃ W, W = X0.alloc (.cells #[.int .i64 x.op, .int .i64 x.reg, .int .i64 x.loc, .int .i64 x.n, .int .i64 x.to] 53) := ⟨_, rfl⟩
                have HWX7 := Lib.hid (show WS w1 53 50 stsCs gm ths.length gy (stCs y) vs vs RS X7 from by rw [hX7]; exact HWX0.out.alloc _)
                have HF := Lib.hid (fun (i : Nat) (u : Value) (h : (stCs x)[i]? = some u) => (show X7.cell? ⟨X0.heap.size, i, none⟩ = some u from by
                  have e := World.news_of_block (heap_alloc_new X0 (.cells #[.int .i64 x.op, .int .i64 x.reg, .int .i64 x.loc, .int .i64 x.n, .int .i64 x.to] 53)) i u h
                  rw [Addr.add_lit, Nat.zero_add] at e
                  rw [hX7]; exact e))
                rw [← hX7] at hHeld ⊢
                clear hX7
                refine wpAnyH_ready (rs := [5]) (by kernel_rfl) (by simp) ?_
                refine AllReadyH.cons rfl (fun K hK => ?_) AllReadyH.nil
                have c39 := HWX7.out.load hjn huM
                go_simp
                refine hK.out _ _ (HP.out _ _ _ _ HWX7.out) (fun hHeld => ?_)
                clear hK K
                (try simp only [Act.put, List.getElem_toArray, List.getElem_cons_zero, List.getElem_cons_succ, Array.getInternal_eq_getElem, List.setIfInBounds_toArray, List.set_cons_zero, List.set_cons_succ])
                clear c39
                refine wpAnyH_ready (rs := [8]) (by kernel_rfl) (by simp) ?_
                refine AllReadyH.cons rfl (fun K hK => ?_) AllReadyH.nil
                refine step_append_at (by rfl) _ _ _ (by rfl) w1.heap.size 53 i0 (.agg #[.int .i64 0, .int .i64 0, .int .i64 0, .int .i64 0, .int .i64 0]) 5 40 Try.underlying50 hi0 hz0 hz1 hz2 (by rfl) (by decide) _ N (stsCs pt) (by rfl) (HOW.out _ _ _ _ HWX7.out) ⟨X0.heap.size, 0, none⟩ 1 1 (stCs x) (by rfl) (by rfl) (fun i u h => by rw [Addr.add_lit, Nat.zero_add]; exact HF.out i u h) (HON.out) (by unfold maxLen; omega) (by omega) HWX7.out.below.size (fun v8 w8 hown8 hg8 hat8 => ?_)
                obtain ⟨A8, c8, rfl⟩ := own_slice hown8
                have HWw8 := Lib.hid (show WS w1 53 50 stsCs gm ths.length gy (stCs y) vs (vs.set j (.slice A8 (N + 1) c8)) (RS.set j (pt ++ [x])) w8 from HWX7.out.append (by decide) huM (by rw [HNL.out, HCS.out]; exact hown8) hg8 hat8)
                clear hown8 hg8 hat8 HF
                refine hK.out _ _ (HP.out _ _ _ _ HWw8.out) (fun hHeld => ?_)
                clear hK K
                (try simp only [Act.put, List.getElem_toArray, List.getElem_cons_zero, List.getElem_cons_succ, Array.getInternal_eq_getElem, List.setIfInBounds_toArray, List.set_cons_zero, List.set_cons_succ])
                refine wpAnyH_take (i := 9) (v := ?_) rfl (by kernel_rfl) (by kernel_rfl) (by kernel_rfl) (fun _ _ _ h => h) (Or.inl ⟨by rfl, ?_⟩) (by assumption) ?_
                rotate_left
                · intro w hSw; (try dsimp only at hSw); go_simp; (try with_reducible rfl)
                (try simp only [Act.put, List.getElem_toArray, List.getElem_cons_zero, List.getElem_cons_succ, Array.getInternal_eq_getElem, List.setIfInBounds_toArray, List.set_cons_zero, List.set_cons_succ])
                refine wpAnyH_ready (rs := [10]) (by kernel_rfl) (by simp) ?_
                refine AllReadyH.cons rfl (fun K hK => ?_) AllReadyH.nil
                have c9 := HWw8.out.load hjn huM
                have f9 := HWw8.out.frz j
                go_simp
                have HW9 := Lib.hid (HWw8.out.store (by decide) rfl)
                refine hK.out _ _ (HP.out _ _ _ _ HW9.out) (fun hHeld => ?_)
                clear hK K
                (try simp only [Act.put, List.getElem_toArray, List.getElem_cons_zero, List.getElem_cons_succ, Array.getInternal_eq_getElem, List.setIfInBounds_toArray, List.set_cons_zero, List.set_cons_succ])
                refine wpAnyH_done (by kernel_rfl) ?_ _
                clear c9 f9 hHeld
                go_wp2_with fail
                go_meet
                exact ⟨_, by simp only [if_true]; rw [← HRS.out]; exact HW9.out⟩
          case rest =>
            obtain ⟨vs1, hcut1⟩ := hcut
            clear HW0
            have HW0 := Lib.hid hcut1
            have HPN2 := Lib.hid (show wthN (fun q => f (j : Int) (q : Int)) x ss (k + 1) = (pt ++ (if fk then [x] else [])) ++ [y] by rw [HPN.out, List.append_assoc])
            have hlk2 : (pt ++ (if fk then [x] else [])).length ≤ 2000001 := by rw [List.length_append]; split <;> simp <;> omega
            generalize pt ++ (if fk then [x] else []) = pt at *
            generalize vs1 = vs at *
            generalize wc = WW at *
            clear hcut1 hlk HPN
            go_upto_region 10 with fail
            obtain ⟨Au, cu, huM, hOW⟩ := HW0.out.row hlt
            generalize hN : pt.length = N at huM hOW
            have HNL := Lib.hid (show (pt ++ [y]).length = N + 1 by simp [hN])
            have HCS := Lib.hid (show stsCs (pt ++ [y]) = stsCs pt ++ stCs y by rw [stsCs_app]; rfl)
            have hNb : N ≤ 3000000 := by omega
            have HRS := Lib.hid (fun q => rowsAt_set (fun (t : Nat) => wthN (fun q => f (t : Int) (q : Int)) x (ths.getD t []) (ths.getD t []).length) pt q hlt)
            have HOW := Lib.hid hOW
            have HON := Lib.hid (show ∀ u ∈ stCs y, u.oneCell' = true from fun u hu => stsCs_one [y] u (by simpa [stsCs] using hu))
            have HP := Lib.hid (fun (vm vr : List Value) (xss : List (List St)) (W : World) (h : WS w1 53 50 stsCs gm ths.length gy (stCs y) vm vr xss W) => (show ((W.cell? ⟨gy, 0, none⟩ = some (.int .i64 y.op) ∧ W.cell? ⟨gy, 1, none⟩ = some (.int .i64 y.reg) ∧ W.cell? ⟨gy, 2, none⟩ = some (.int .i64 y.loc) ∧ W.cell? ⟨gy, 3, none⟩ = some (.int .i64 y.n) ∧ W.cell? ⟨gy, 4, none⟩ = some (.int .i64 y.to)) ∧ Below w1.heap.size w1 W) from ⟨⟨h.y 0 _ rfl, h.y 1 _ rfl, h.y 2 _ rfl, h.y 3 _ rfl, h.y 4 _ rfl⟩, h.below⟩))
            have hzt : (0 : Int) ≤ (j : Int) := by omega
            have hzt2 : (j : Int) < (ths.length : Int) := by omega
            have hjn := hlt
            obtain ⟨RS, hRS⟩ : ∃ r, r = rowsAt (fun (t : Nat) => wthN (fun q => f (t : Int) (q : Int)) x (ths.getD t []) (ths.getD t []).length) pt ths.length j := ⟨_, rfl⟩
            rw [← hRS] at HW0 HRS HOW
            clear hOW hN hRS
            refine wp_region_held_drew (S := (fun w' => (w'.cell? ⟨gy, 0, none⟩ = some (.int .i64 y.op) ∧ w'.cell? ⟨gy, 1, none⟩ = some (.int .i64 y.reg) ∧ w'.cell? ⟨gy, 2, none⟩ = some (.int .i64 y.loc) ∧ w'.cell? ⟨gy, 3, none⟩ = some (.int .i64 y.n) ∧ w'.cell? ⟨gy, 4, none⟩ = some (.int .i64 y.to)) ∧ Below w1.heap.size w1 w')) (by kernel_rfl) (HP.out _ _ _ _ HW0.out.drew) (fun hHeld => ?_)
            obtain ⟨X0, hX0⟩ : ∃ W, W = WW.drew := ⟨_, rfl⟩
            have HWX0 := Lib.hid (show WS w1 53 50 stsCs gm ths.length gy (stCs y) vs vs RS X0 from by rw [hX0]; exact HW0.out.drew)
            rw [← hX0] at hHeld ⊢
            clear hX0
            refine wpAnyH_take (i := 0) (v := ?_) rfl (by kernel_rfl) (by kernel_rfl) (by kernel_rfl) (fun _ _ _ h => h) (Or.inl ⟨by rfl, ?_⟩) (by assumption) ?_
            rotate_left
            · intro w hSw; (try dsimp only at hSw); go_simp; (try with_reducible rfl)
            (try simp only [Act.put, List.getElem_toArray, List.getElem_cons_zero, List.getElem_cons_succ, Array.getInternal_eq_getElem, List.setIfInBounds_toArray, List.set_cons_zero, List.set_cons_succ])
            refine wpAnyH_take (i := 1) (v := ?_) rfl (by kernel_rfl) (by kernel_rfl) (by kernel_rfl) (fun _ _ _ h => h) (Or.inl ⟨by rfl, ?_⟩) (by assumption) ?_
            rotate_left
            · intro w hSw; (try dsimp only at hSw); go_simp; (try with_reducible rfl)
            (try simp only [Act.put, List.getElem_toArray, List.getElem_cons_zero, List.getElem_cons_succ, Array.getInternal_eq_getElem, List.setIfInBounds_toArray, List.set_cons_zero, List.set_cons_succ])
            refine wpAnyH_take (i := 2) (v := ?_) rfl (by kernel_rfl) (by kernel_rfl) (by kernel_rfl) (fun _ _ _ h => h) (Or.inl ⟨by rfl, ?_⟩) (by assumption) ?_
            rotate_left
            · intro w hSw; (try dsimp only at hSw); go_simp; (try with_reducible rfl)
            (try simp only [Act.put, List.getElem_toArray, List.getElem_cons_zero, List.getElem_cons_succ, Array.getInternal_eq_getElem, List.setIfInBounds_toArray, List.set_cons_zero, List.set_cons_succ])
            refine wpAnyH_take (i := 3) (v := ?_) rfl (by kernel_rfl) (by kernel_rfl) (by kernel_rfl) (fun _ _ _ h => h) (Or.inl ⟨by rfl, ?_⟩) (by assumption) ?_
            rotate_left
            · intro w hSw; (try dsimp only at hSw); go_simp; (try with_reducible rfl)
            (try simp only [Act.put, List.getElem_toArray, List.getElem_cons_zero, List.getElem_cons_succ, Array.getInternal_eq_getElem, List.setIfInBounds_toArray, List.set_cons_zero, List.set_cons_succ])
            refine wpAnyH_take (i := 4) (v := ?_) rfl (by kernel_rfl) (by kernel_rfl) (by kernel_rfl) (fun _ _ _ h => h) (Or.inl ⟨by rfl, ?_⟩) (by assumption) ?_
            rotate_left
            · intro w hSw; (try dsimp only at hSw); go_simp; (try with_reducible rfl)
            (try simp only [Act.put, List.getElem_toArray, List.getElem_cons_zero, List.getElem_cons_succ, Array.getInternal_eq_getElem, List.setIfInBounds_toArray, List.set_cons_zero, List.set_cons_succ])
            refine wpAnyH_take (i := 6) (v := ?_) rfl (by kernel_rfl) (by kernel_rfl) (by kernel_rfl) (fun _ _ _ h => h) (Or.inl ⟨by rfl, ?_⟩) (by assumption) ?_
            rotate_left
            · intro w hSw; (try dsimp only at hSw); go_simp; (try with_reducible rfl)
            (try simp only [Act.put, List.getElem_toArray, List.getElem_cons_zero, List.getElem_cons_succ, Array.getInternal_eq_getElem, List.setIfInBounds_toArray, List.set_cons_zero, List.set_cons_succ])
            refine wpAnyH_ready (rs := [5, 7]) (by kernel_rfl) (by simp) ?_
            refine AllReadyH.cons rfl (fun K hK => ?_) (AllReadyH.cons rfl (fun K hK => ?_) (AllReadyH.nil))
            · -- 5 first
              have c39 := HWX0.out.load hjn huM
              go_simp
              refine hK.out _ _ (HP.out _ _ _ _ HWX0.out) (fun hHeld => ?_)
              clear hK K
              (try simp only [Act.put, List.getElem_toArray, List.getElem_cons_zero, List.getElem_cons_succ, Array.getInternal_eq_getElem, List.setIfInBounds_toArray, List.set_cons_zero, List.set_cons_succ])
              clear c39
              refine wpAnyH_ready (rs := [7]) (by kernel_rfl) (by simp) ?_
              refine AllReadyH.cons rfl (fun K hK => ?_) AllReadyH.nil
              go_simp
              refine hK.out _ _ (HP.out _ _ _ _ (HWX0.out.alloc (.cells #[.int .i64 y.op, .int .i64 y.reg, .int .i64 y.loc, .int .i64 y.n, .int .i64 y.to] 53))) (fun hHeld => ?_)
              clear hK K
              (try simp only [Act.put, List.getElem_toArray, List.getElem_cons_zero, List.getElem_cons_succ, Array.getInternal_eq_getElem, List.setIfInBounds_toArray, List.set_cons_zero, List.set_cons_succ])
              obtain ⟨X7, hX7⟩ : ∃ W, W = X0.alloc (.cells #[.int .i64 y.op, .int .i64 y.reg, .int .i64 y.loc, .int .i64 y.n, .int .i64 y.to] 53) := ⟨_, rfl⟩
              have HWX7 := Lib.hid (show WS w1 53 50 stsCs gm ths.length gy (stCs y) vs vs RS X7 from by rw [hX7]; exact HWX0.out.alloc _)
              have HF := Lib.hid (fun (i : Nat) (u : Value) (h : (stCs y)[i]? = some u) => (show X7.cell? ⟨X0.heap.size, i, none⟩ = some u from by
                have e := World.news_of_block (heap_alloc_new X0 (.cells #[.int .i64 y.op, .int .i64 y.reg, .int .i64 y.loc, .int .i64 y.n, .int .i64 y.to] 53)) i u h
                rw [Addr.add_lit, Nat.zero_add] at e
                rw [hX7]; exact e))
              rw [← hX7] at hHeld ⊢
              clear hX7
              refine wpAnyH_ready (rs := [8]) (by kernel_rfl) (by simp) ?_
              refine AllReadyH.cons rfl (fun K hK => ?_) AllReadyH.nil
              refine step_append_at (by rfl) _ _ _ (by rfl) w1.heap.size 53 i0 (.agg #[.int .i64 0, .int .i64 0, .int .i64 0, .int .i64 0, .int .i64 0]) 5 40 Try.underlying50 hi0 hz0 hz1 hz2 (by rfl) (by decide) _ N (stsCs pt) (by rfl) (HOW.out _ _ _ _ HWX7.out) ⟨X0.heap.size, 0, none⟩ 1 1 (stCs y) (by rfl) (by rfl) (fun i u h => by rw [Addr.add_lit, Nat.zero_add]; exact HF.out i u h) (HON.out) (by unfold maxLen; omega) (by omega) HWX7.out.below.size (fun v8 w8 hown8 hg8 hat8 => ?_)
              obtain ⟨A8, c8, rfl⟩ := own_slice hown8
              have HWw8 := Lib.hid (show WS w1 53 50 stsCs gm ths.length gy (stCs y) vs (vs.set j (.slice A8 (N + 1) c8)) (RS.set j (pt ++ [y])) w8 from HWX7.out.append (by decide) huM (by rw [HNL.out, HCS.out]; exact hown8) hg8 hat8)
              clear hown8 hg8 hat8 HF
              refine hK.out _ _ (HP.out _ _ _ _ HWw8.out) (fun hHeld => ?_)
              clear hK K
              (try simp only [Act.put, List.getElem_toArray, List.getElem_cons_zero, List.getElem_cons_succ, Array.getInternal_eq_getElem, List.setIfInBounds_toArray, List.set_cons_zero, List.set_cons_succ])
              refine wpAnyH_take (i := 9) (v := ?_) rfl (by kernel_rfl) (by kernel_rfl) (by kernel_rfl) (fun _ _ _ h => h) (Or.inl ⟨by rfl, ?_⟩) (by assumption) ?_
              rotate_left
              · intro w hSw; (try dsimp only at hSw); go_simp; (try with_reducible rfl)
              (try simp only [Act.put, List.getElem_toArray, List.getElem_cons_zero, List.getElem_cons_succ, Array.getInternal_eq_getElem, List.setIfInBounds_toArray, List.set_cons_zero, List.set_cons_succ])
              refine wpAnyH_ready (rs := [10]) (by kernel_rfl) (by simp) ?_
              refine AllReadyH.cons rfl (fun K hK => ?_) AllReadyH.nil
              have c9 := HWw8.out.load hjn huM
              have f9 := HWw8.out.frz j
              go_simp
              have HW9 := Lib.hid (HWw8.out.store (by decide) rfl)
              refine hK.out _ _ (HP.out _ _ _ _ HW9.out) (fun hHeld => ?_)
              clear hK K
              (try simp only [Act.put, List.getElem_toArray, List.getElem_cons_zero, List.getElem_cons_succ, Array.getInternal_eq_getElem, List.setIfInBounds_toArray, List.set_cons_zero, List.set_cons_succ])
              refine wpAnyH_done (by kernel_rfl) ?_ _
              clear c9 f9 hHeld
              go_wp2_with fail
              go_roundw
              case rel => exact ⟨k + 1, _, gy, _, by omega, by go_num, by rw [HPN2.out, ← HRS.out]; exact HW9.out⟩
              case measure => simp [intOf]; omega
            · -- 7 first
              go_simp
              refine hK.out _ _ (HP.out _ _ _ _ (HWX0.out.alloc (.cells #[.int .i64 y.op, .int .i64 y.reg, .int .i64 y.loc, .int .i64 y.n, .int .i64 y.to] 53))) (fun hHeld => ?_)
              clear hK K
              (try simp only [Act.put, List.getElem_toArray, List.getElem_cons_zero, List.getElem_cons_succ, Array.getInternal_eq_getElem, List.setIfInBounds_toArray, List.set_cons_zero, List.set_cons_succ])
              obtain ⟨X7, hX7⟩ : ∃ W, W = X0.alloc (.cells #[.int .i64 y.op, .int .i64 y.reg, .int .i64 y.loc, .int .i64 y.n, .int .i64 y.to] 53) := ⟨_, rfl⟩
              have HWX7 := Lib.hid (show WS w1 53 50 stsCs gm ths.length gy (stCs y) vs vs RS X7 from by rw [hX7]; exact HWX0.out.alloc _)
              have HF := Lib.hid (fun (i : Nat) (u : Value) (h : (stCs y)[i]? = some u) => (show X7.cell? ⟨X0.heap.size, i, none⟩ = some u from by
                have e := World.news_of_block (heap_alloc_new X0 (.cells #[.int .i64 y.op, .int .i64 y.reg, .int .i64 y.loc, .int .i64 y.n, .int .i64 y.to] 53)) i u h
                rw [Addr.add_lit, Nat.zero_add] at e
                rw [hX7]; exact e))
              rw [← hX7] at hHeld ⊢
              clear hX7
              refine wpAnyH_ready (rs := [5]) (by kernel_rfl) (by simp) ?_
              refine AllReadyH.cons rfl (fun K hK => ?_) AllReadyH.nil
              have c39 := HWX7.out.load hjn huM
              go_simp
              refine hK.out _ _ (HP.out _ _ _ _ HWX7.out) (fun hHeld => ?_)
              clear hK K
              (try simp only [Act.put, List.getElem_toArray, List.getElem_cons_zero, List.getElem_cons_succ, Array.getInternal_eq_getElem, List.setIfInBounds_toArray, List.set_cons_zero, List.set_cons_succ])
              clear c39
              refine wpAnyH_ready (rs := [8]) (by kernel_rfl) (by simp) ?_
              refine AllReadyH.cons rfl (fun K hK => ?_) AllReadyH.nil
              refine step_append_at (by rfl) _ _ _ (by rfl) w1.heap.size 53 i0 (.agg #[.int .i64 0, .int .i64 0, .int .i64 0, .int .i64 0, .int .i64 0]) 5 40 Try.underlying50 hi0 hz0 hz1 hz2 (by rfl) (by decide) _ N (stsCs pt) (by rfl) (HOW.out _ _ _ _ HWX7.out) ⟨X0.heap.size, 0, none⟩ 1 1 (stCs y) (by rfl) (by rfl) (fun i u h => by rw [Addr.add_lit, Nat.zero_add]; exact HF.out i u h) (HON.out) (by unfold maxLen; omega) (by omega) HWX7.out.below.size (fun v8 w8 hown8 hg8 hat8 => ?_)
              obtain ⟨A8, c8, rfl⟩ := own_slice hown8
              have HWw8 := Lib.hid (show WS w1 53 50 stsCs gm ths.length gy (stCs y) vs (vs.set j (.slice A8 (N + 1) c8)) (RS.set j (pt ++ [y])) w8 from HWX7.out.append (by decide) huM (by rw [HNL.out, HCS.out]; exact hown8) hg8 hat8)
              clear hown8 hg8 hat8 HF
              refine hK.out _ _ (HP.out _ _ _ _ HWw8.out) (fun hHeld => ?_)
              clear hK K
              (try simp only [Act.put, List.getElem_toArray, List.getElem_cons_zero, List.getElem_cons_succ, Array.getInternal_eq_getElem, List.setIfInBounds_toArray, List.set_cons_zero, List.set_cons_succ])
              refine wpAnyH_take (i := 9) (v := ?_) rfl (by kernel_rfl) (by kernel_rfl) (by kernel_rfl) (fun _ _ _ h => h) (Or.inl ⟨by rfl, ?_⟩) (by assumption) ?_
              rotate_left
              · intro w hSw; (try dsimp only at hSw); go_simp; (try with_reducible rfl)
              (try simp only [Act.put, List.getElem_toArray, List.getElem_cons_zero, List.getElem_cons_succ, Array.getInternal_eq_getElem, List.setIfInBounds_toArray, List.set_cons_zero, List.set_cons_succ])
              refine wpAnyH_ready (rs := [10]) (by kernel_rfl) (by simp) ?_
              refine AllReadyH.cons rfl (fun K hK => ?_) AllReadyH.nil
              have c9 := HWw8.out.load hjn huM
              have f9 := HWw8.out.frz j
              go_simp
              have HW9 := Lib.hid (HWw8.out.store (by decide) rfl)
              refine hK.out _ _ (HP.out _ _ _ _ HW9.out) (fun hHeld => ?_)
              clear hK K
              (try simp only [Act.put, List.getElem_toArray, List.getElem_cons_zero, List.getElem_cons_succ, Array.getInternal_eq_getElem, List.setIfInBounds_toArray, List.set_cons_zero, List.set_cons_succ])
              refine wpAnyH_done (by kernel_rfl) ?_ _
              clear c9 f9 hHeld
              go_wp2_with fail
              go_roundw
              case rel => exact ⟨k + 1, _, gy, _, by omega, by go_num, by rw [HPN2.out, ← HRS.out]; exact HW9.out⟩
              case measure => simp [intOf]; omega
        · obtain rfl : ss.length = k := by omega
          go_wp2
          go_roundw
          case rel => exact ⟨j + 1, vs, gy0, yv, by omega, by go_num, by rw [← HFU.out]; exact hW⟩
          case measure => simp [intOf]; omega
    · obtain rfl : ths.length = j := by omega
      rw [rowsAt_end] at hW
      go_wp2
      go_ret
      exact ⟨gm, vs, rfl, own_base hW.more HBS.out.size, ⟨hW.rows.len, fun i hi => by obtain ⟨u, h1, h2⟩ := hW.rows.own i hi; exact ⟨u, h1, own_base h2 HBS.out.size⟩, hW.rows.apart⟩, HBS.out.trans (hW.below.mono HBS.out.size)⟩
end Go.Proofs.Ytaelfjphgdlbcaa
namespace Go.Proofs.Ytaelfjphgdlbcaa
open Go.RowKit
set_option linter.unusedVariables false
set_option linter.unusedSimpArgs false
open CodM (St Pg)
open SlM
set_option maxRecDepth 100000
/-- The map value says f, now and as long as nothing of now alters. -/
def LookP (w : World) (mp : Option Nat) (f : Int → Int → Bool) : Prop :=
  ∀ W, Below w.heap.size w W → ∀ t k : Int, (Lit.int .i64 t).wf = true → (Lit.int .i64 k).wf = true → (Instr.lookup 76 (.map mp) (.agg #[.int .i64 t, .int .i64 k]) false).run Try.prog W = .ok (.bool (f t k)) W
theorem LookP.of {w : World} {bp N : Nat} {f : Int → Int → Bool} (h : MapP w bp N f) : LookP w (some bp) f := by
  intro W hW t k ht hk
  obtain ⟨D, h1, h2, h3⟩ := h.below hW h.lt
  obtain ⟨l, hl⟩ := mapP_key ht hk
  obtain ⟨c, hrun, hat⟩ := own_look_bool h1 place_law Try.underlying76 Try.underlying4 (zero_bool W) hl
  rw [h3 t k l hl] at hat
  injection hat with hat
  injection hat with hat
  rw [hrun, hat]
theorem LookP.none (w : World) : LookP w none (fun _ _ => false) := by
  intro W hW t k ht hk
  obtain ⟨l, hl⟩ := mapP_key ht hk
  have := Maps.look_nil false place_law Try.underlying76 (zero_bool W) hl
  simpa using this
theorem LookP.below {w w' : World} {mp : Option Nat} {f : Int → Int → Bool} (h : LookP w mp f) (hb : Below w.heap.size w w') : LookP w' mp f := fun W hW => h W (hb.trans (hW.mono hb.size))
section
variable (w : World) {ops : Array Oper} {rest : List Oper} {o : Oper} {a : Act} {Q : Exit → Act → World → Prop}
theorem at_lookP (hg : o.guard = none) (m x : Operand) (hop : o.op = Op.lookup 76 m x false) (mp : Option Nat) (f : Int → Int → Bool) (hm : a.eval m = .map mp) (w0 : World) (hL : LookP w0 mp f) (hB : Below w0.heap.size w0 w) (t k : Int) (hx : a.eval x = .agg #[.int .i64 t, .int .i64 k]) (ht : (Lit.int .i64 t).wf = true) (hk : (Lit.int .i64 k).wf = true)
    (hK : wpList Try.prog ops Q rest (a.put o.dst (.bool (f t k))) w) : wpList Try.prog ops Q (o :: rest) a w := by
  refine wpList_plain hg fun K' hK' => ?_
  have hrun := hL w hB t k ht hk
  unfold Oper.wp
  simp [execOp, hop, hm, hx, hrun, Result.andThen]
  exact hK' _ _ hK
end
def WORel (w1 : World) (gm : Nat) (f : Int → Int → Bool) (ths : List (List OpsM.Ln)) (i : Value) (wr : World) : Prop :=
  ∃ (j : Nat) (vs : List Value) (gy : Nat) (yv : List Value), j ≤ ths.length ∧ i = .int .i64 j ∧ WS w1 60 56 lnsCs gm ths.length gy yv vs vs (rowsAt (fun (t : Nat) => witN (fun q => f (t : Int) (q : Int)) (ths.getD t []) (ths.getD t []).length) [] ths.length j) wr
def VORel (w1 : World) (gm : Nat) (f : Int → Int → Bool) (ths : List (List OpsM.Ln)) (ss : List OpsM.Ln) (j : Nat) (i : Value) (wr : World) : Prop :=
  ∃ (k : Nat) (vs : List Value) (gy : Nat) (yv : List Value), k ≤ ss.length ∧ i = .int .i64 k ∧ WS w1 60 56 lnsCs gm ths.length gy yv vs vs (rowsAt (fun (t : Nat) => witN (fun q => f (t : Int) (q : Int)) (ths.getD t []) (ths.getD t []).length) (witN (fun q => f (j : Int) (q : Int)) ss k) ths.length j) wr
set_option maxHeartbeats 8000000 in
set_option maxRecDepth 100000 in
theorem without_any {B : Nat} {mp : Option Nat} {v : Value} {ths : List (List OpsM.Ln)} {f : Int → Int → Bool} (w : World) (hv : Ths B w v ths) (hBB : B ≤ w.heap.size) (hm : LookP w mp f) (hw0 : 0 < w.heap.size) (hl : ths.length ≤ 1000000) (hll : ∀ ss ∈ ths, ss.length ≤ 1000000) :
    Calls Try.prog 38 #[v, .map mp] w fun e w' => ∃ b vs, e = .returned (.slice (some ⟨b, 0, none⟩) ths.length ths.length) ∧ w'.ownsRow w.heap.size 56 1 (.slice (some ⟨b, 0, none⟩) ths.length ths.length) ths.length vs ∧
      RowsA w' w.heap.size 60 lnsCs vs ((List.range ths.length).map (fun (t : Nat) => witN (fun q => f (t : Int) (q : Int)) (ths.getD t []) (ths.getD t []).length)) ∧ Below w.heap.size w w' := by
  have HLL := Lib.hid (fun (t : Nat) (ht : t < ths.length) => hll ths[t] (List.getElem_mem ht))
  obtain ⟨w1, hw1⟩ : ∃ W, W = w := ⟨_, rfl⟩
  have hb1 : Below w.heap.size w w1 := by rw [hw1]; exact Below.refl _ w
  have HV := Lib.hid (hv.below (hb1.mono hBB))
  have HM1 := Lib.hid (hm.below hb1)
  have hbp1 : 0 < w1.heap.size := Nat.lt_of_lt_of_le hw0 hb1.size
  have hB1 : B ≤ w1.heap.size := Nat.le_trans hBB hb1.size
  obtain ⟨A0, c0, rfl, hc1, hc2, -⟩ := hv
  obtain ⟨A', c', e', -, -, hc3⟩ := HV.out
  simp only [Value.slice.injEq, true_and] at e'
  obtain ⟨rfl, rfl⟩ := e'
  unfold maxLen at hc2
  obtain ⟨ii, hii, hiz, his, hib⟩ := info_parts info_lrow
  obtain ⟨i0, hi0, hz0, hz1, hz2⟩ := info_parts info_lne
  obtain ⟨w2, hmk, hown2, hgr2⟩ := run_makeSlice_full (P := Try.prog) (w := w1) w1.heap.size 72 56 ii (.slice none 0 0) 1 Try.underlying72 hii hiz his .i64 .i64 ths.length (by omega) (by rw [hib]; omega) (by unfold maxLen; omega) (Nat.le_refl _)
  rw [made_rows] at hown2
  have hB2 : Below w1.heap.size w1 w2 := ⟨hgr2.os, hgr2.tape, hgr2.output, hgr2.size, fun k hk => hgr2.block k hk (by simp)⟩
  obtain ⟨gm, hgm⟩ : ∃ g, g = w1.heap.size := ⟨_, rfl⟩
  rw [← hgm] at hmk
  have HST := Lib.hid (show WS w1 60 56 lnsCs gm ths.length 0 [] (List.replicate ths.length (.slice none 0 0)) (List.replicate ths.length (.slice none 0 0)) (rowsAt (fun (t : Nat) => witN (fun q => f (t : Int) (q : Int)) (ths.getD t []) (ths.getD t []).length) [] ths.length 0) w2 from by
    rw [rowsAt_zero, hgm]
    exact ⟨hown2, RowsA.made _ _ _ _ rfl _, fun i v h => (by cases h), ⟨(by omega), fun j u h => by
      rw [List.getElem?_replicate] at h
      split at h
      · injection h with h; subst h; simp [Value.ownBlock]
      · cases h⟩, Nat.lt_of_lt_of_le hbp1 hB2.size, hB2⟩)
  have HBS := Lib.hid hb1
  rw [hw1] at hmk
  have HW1 := Lib.hid hw1
  clear hw1 hb1 hown2 hgr2 hB2 hgm
  go_enter Try.func38, Try.ntmps38
  go_wp2
  go_loopw [15] (fun i wr => WORel w1 gm f ths i wr) (fun i _ => ths.length - (intOf i).toNat)
  case atStart => exact ⟨0, _, 0, [], Nat.zero_le _, rfl, HST.out⟩
  case round =>
    obtain ⟨j, vs, gy0, yv, hj, rfl, hW⟩ := hrel
    by_cases hlt : j < ths.length
    · obtain ⟨b1, f1, rfl, hb1, hcl⟩ := hc3 (by omega)
      obtain ⟨vv, hvs, hsts⟩ := hcl j hlt
      have hvs' := (hW.below.cell (p := ⟨b1, f1 + j, none⟩) (show b1 < _ by omega)).trans hvs
      obtain ⟨A1, c1, rfl, hd1, hd2, hd3⟩ := hsts
      have hlen := HLL.out j hlt
      unfold maxLen at hd2
      have HFU := Lib.hid (show rowsAt (fun (t : Nat) => witN (fun q => f (t : Int) (q : Int)) (ths.getD t []) (ths.getD t []).length) (witN (fun q => f (j : Int) (q : Int)) ths[j] ths[j].length) ths.length j = rowsAt (fun (t : Nat) => witN (fun q => f (t : Int) (q : Int)) (ths.getD t []) (ths.getD t []).length) [] ths.length (j + 1) by rw [← rowsAt_next]; simp only [SlM.getD_at hlt])
      generalize ths[j] = ss at *
      clear hcl hvs
      go_wp2
      go_loopw [22] (fun i wr => VORel w1 gm f ths ss j i wr) (fun i _ => ss.length - (intOf i).toNat)
      case atStart => exact ⟨0, vs, gy0, yv, Nat.zero_le _, rfl, hW⟩
      case round =>
        clear hW hvs'
        obtain ⟨k, vs, gy0, yv, hk, rfl, hW⟩ := hrel
        by_cases hlt2 : k < ss.length
        · obtain ⟨b2, f2, rfl, hb2, hst⟩ := hd3 (by omega)
          obtain ⟨z0, z1, z2, z3, z4⟩ := (hst k hlt2).below hW.below (by omega)
          have HPN := Lib.hid ((show witN (fun q => f (j : Int) (q : Int)) ss (k + 1) = witN (fun q => f (j : Int) (q : Int)) ss k ++ (if f (j : Int) (k : Int) then [] else [ss[k]]) from witN_next _ ss k hlt2))
          generalize ss[k] = y at *
          clear hst
          have hws := hW.below.size
          have hb2' : b2 < wr.heap.size := by omega
          have wj : (Lit.int .i64 (j : Int)).wf = true := WalkArith.wf_i64 (by omega)
          have wk : (Lit.int .i64 (k : Int)).wf = true := WalkArith.wf_i64 (by omega)
          have HMw := Lib.hid (hW.below.alloc hW.below.size (.cells #[.int .i64 y.op, .string ⟨y.reg.toArray⟩, .string ⟨y.loc.toArray⟩, .string ⟨y.label.toArray⟩, .int .i64 y.n] 60))
          have HW0 := Lib.hid (hW.box [.int .i64 y.op, .string ⟨y.reg.toArray⟩, .string ⟨y.loc.toArray⟩, .string ⟨y.label.toArray⟩, .int .i64 y.n] 60)
          obtain ⟨fk, hfk⟩ : ∃ b, f (j : Int) (k : Int) = b := ⟨_, rfl⟩
          have hlk : (witN (fun q => f (j : Int) (q : Int)) ss k).length ≤ 2000000 := by have := witN_len (fun q => f (j : Int) (q : Int)) ss k; omega
          rw [hfk] at HPN
          generalize hpt : witN (fun q => f (j : Int) (q : Int)) ss k = pt at *
          obtain ⟨gy, hgy⟩ : ∃ g, g = wr.heap.size := ⟨_, rfl⟩
          cases fk
          · have HPN2 := Lib.hid (show witN (fun q => f (j : Int) (q : Int)) ss (k + 1) = pt ++ [y] by rw [HPN.out]; rfl)
            go_upto_region 9 with (at_lookup; refine at_lookP _ rfl _ _ rfl mp _ rfl w1 HM1.out HMw.out (j : Int) (k : Int) rfl wj wk ?_; rw [hfk]; try go_frame)
            obtain ⟨WW, hWW⟩ : ∃ W, W = wr.alloc (.cells #[.int .i64 y.op, .string ⟨y.reg.toArray⟩, .string ⟨y.loc.toArray⟩, .string ⟨y.label.toArray⟩, .int .i64 y.n] 60) := ⟨_, rfl⟩
            replace HW0 := Lib.hid (show WS w1 60 56 lnsCs gm ths.length gy (lnCs y) vs vs (rowsAt (fun (t : Nat) => witN (fun q => f (t : Int) (q : Int)) (ths.getD t []) (ths.getD t []).length) pt ths.length j) WW from by rw [hgy, hWW]; exact HW0.out)
            rw [← hWW, ← hgy]
            clear hWW hgy HMw hW z0 z1 z2 z3 z4 hws hb2' wj wk hfk HPN hpt
            obtain ⟨Au, cu, huM, hOW⟩ := HW0.out.row hlt
            generalize hN : pt.length = N at huM hOW
            have HNL := Lib.hid (show (pt ++ [y]).length = N + 1 by simp [hN])
            have HCS := Lib.hid (show lnsCs (pt ++ [y]) = lnsCs pt ++ lnCs y by rw [lnsCs_app]; rfl)
            have hNb : N ≤ 3000000 := by omega
            have HRS := Lib.hid (fun q => rowsAt_set (fun (t : Nat) => witN (fun q => f (t : Int) (q : Int)) (ths.getD t []) (ths.getD t []).length) pt q hlt)
            have HOW := Lib.hid hOW
            have HON := Lib.hid (show ∀ u ∈ lnCs y, u.oneCell' = true from fun u hu => lnsCs_one [y] u (by simpa [lnsCs] using hu))
            have HP := Lib.hid (fun (vm vr : List Value) (xss : List (List OpsM.Ln)) (W : World) (h : WS w1 60 56 lnsCs gm ths.length gy (lnCs y) vm vr xss W) => (show ((W.cell? ⟨gy, 0, none⟩ = some (.int .i64 y.op) ∧ W.cell? ⟨gy, 1, none⟩ = some (.string ⟨y.reg.toArray⟩) ∧ W.cell? ⟨gy, 2, none⟩ = some (.string ⟨y.loc.toArray⟩) ∧ W.cell? ⟨gy, 3, none⟩ = some (.string ⟨y.label.toArray⟩) ∧ W.cell? ⟨gy, 4, none⟩ = some (.int .i64 y.n)) ∧ Below w1.heap.size w1 W) from ⟨⟨h.y 0 _ rfl, h.y 1 _ rfl, h.y 2 _ rfl, h.y 3 _ rfl, h.y 4 _ rfl⟩, h.below⟩))
            have hzt : (0 : Int) ≤ (j : Int) := by omega
            have hzt2 : (j : Int) < (ths.length : Int) := by omega
            have hjn := hlt
            obtain ⟨RS, hRS⟩ : ∃ r, r = rowsAt (fun (t : Nat) => witN (fun q => f (t : Int) (q : Int)) (ths.getD t []) (ths.getD t []).length) pt ths.length j := ⟨_, rfl⟩
            rw [← hRS] at HW0 HRS HOW
            clear hOW hN hRS
            refine wp_region_held_drew (S := (fun w' => (w'.cell? ⟨gy, 0, none⟩ = some (.int .i64 y.op) ∧ w'.cell? ⟨gy, 1, none⟩ = some (.string ⟨y.reg.toArray⟩) ∧ w'.cell? ⟨gy, 2, none⟩ = some (.string ⟨y.loc.toArray⟩) ∧ w'.cell? ⟨gy, 3, none⟩ = some (.string ⟨y.label.toArray⟩) ∧ w'.cell? ⟨gy, 4, none⟩ = some (.int .i64 y.n)) ∧ Below w1.heap.size w1 w')) (by kernel_rfl) (HP.out _ _ _ _ HW0.out.drew) (fun hHeld => ?_)
            obtain ⟨X0, hX0⟩ : ∃ W, W = WW.drew := ⟨_, rfl⟩
            have HWX0 := Lib.hid (show WS w1 60 56 lnsCs gm ths.length gy (lnCs y) vs vs RS X0 from by rw [hX0]; exact HW0.out.drew)
            rw [← hX0] at hHeld ⊢
            clear hX0
            refine wpAnyH_take (i := 0) (v := ?_) rfl (by kernel_rfl) (by kernel_rfl) (by kernel_rfl) (fun _ _ _ h => h) (Or.inl ⟨by rfl, ?_⟩) (by assumption) ?_
            rotate_left
            · intro w hSw; (try dsimp only at hSw); go_simp; (try with_reducible rfl)
            (try simp only [Act.put, List.getElem_toArray, List.getElem_cons_zero, List.getElem_cons_succ, Array.getInternal_eq_getElem, List.setIfInBounds_toArray, List.set_cons_zero, List.set_cons_succ])
            refine wpAnyH_take (i := 1) (v := ?_) rfl (by kernel_rfl) (by kernel_rfl) (by kernel_rfl) (fun _ _ _ h => h) (Or.inl ⟨by rfl, ?_⟩) (by assumption) ?_
            rotate_left
            · intro w hSw; (try dsimp only at hSw); go_simp; (try with_reducible rfl)
            (try simp only [Act.put, List.getElem_toArray, List.getElem_cons_zero, List.getElem_cons_succ, Array.getInternal_eq_getElem, List.setIfInBounds_toArray, List.set_cons_zero, List.set_cons_succ])
            refine wpAnyH_take (i := 2) (v := ?_) rfl (by kernel_rfl) (by kernel_rfl) (by kernel_rfl) (fun _ _ _ h => h) (Or.inl ⟨by rfl, ?_⟩) (by assumption) ?_
            rotate_left
            · intro w hSw; (try dsimp only at hSw); go_simp; (try with_reducible rfl)
            (try simp only [Act.put, List.getElem_toArray, List.getElem_cons_zero, List.getElem_cons_succ, Array.getInternal_eq_getElem, List.setIfInBounds_toArray, List.set_cons_zero, List.set_cons_succ])
            refine wpAnyH_take (i := 3) (v := ?_) rfl (by kernel_rfl) (by kernel_rfl) (by kernel_rfl) (fun _ _ _ h => h) (Or.inl ⟨by rfl, ?_⟩) (by assumption) ?_
            rotate_left
            · intro w hSw; (try dsimp only at hSw); go_simp; (try with_reducible rfl)
            (try simp only [Act.put, List.getElem_toArray, List.getElem_cons_zero, List.getElem_cons_succ, Array.getInternal_eq_getElem, List.setIfInBounds_toArray, List.set_cons_zero, List.set_cons_succ])
            refine wpAnyH_take (i := 4) (v := ?_) rfl (by kernel_rfl) (by kernel_rfl) (by kernel_rfl) (fun _ _ _ h => h) (Or.inl ⟨by rfl, ?_⟩) (by assumption) ?_
            rotate_left
            · intro w hSw; (try dsimp only at hSw); go_simp; (try with_reducible rfl)
            (try simp only [Act.put, List.getElem_toArray, List.getElem_cons_zero, List.getElem_cons_succ, Array.getInternal_eq_getElem, List.setIfInBounds_toArray, List.set_cons_zero, List.set_cons_succ])
            refine wpAnyH_take (i := 6) (v := ?_) rfl (by kernel_rfl) (by kernel_rfl) (by kernel_rfl) (fun _ _ _ h => h) (Or.inl ⟨by rfl, ?_⟩) (by assumption) ?_
            rotate_left
            · intro w hSw; (try dsimp only at hSw); go_simp; (try with_reducible rfl)
            (try simp only [Act.put, List.getElem_toArray, List.getElem_cons_zero, List.getElem_cons_succ, Array.getInternal_eq_getElem, List.setIfInBounds_toArray, List.set_cons_zero, List.set_cons_succ])
            refine wpAnyH_ready (rs := [5, 7]) (by kernel_rfl) (by simp) ?_
            refine AllReadyH.cons rfl (fun K hK => ?_) (AllReadyH.cons rfl (fun K hK => ?_) (AllReadyH.nil))
            · -- 5 first
              have c39 := HWX0.out.load hjn huM
              go_simp
              refine hK.out _ _ (HP.out _ _ _ _ HWX0.out) (fun hHeld => ?_)
              clear hK K
              (try simp only [Act.put, List.getElem_toArray, List.getElem_cons_zero, List.getElem_cons_succ, Array.getInternal_eq_getElem, List.setIfInBounds_toArray, List.set_cons_zero, List.set_cons_succ])
              clear c39
              refine wpAnyH_ready (rs := [7]) (by kernel_rfl) (by simp) ?_
              refine AllReadyH.cons rfl (fun K hK => ?_) AllReadyH.nil
              go_simp
              refine hK.out _ _ (HP.out _ _ _ _ (HWX0.out.alloc (.cells #[.int .i64 y.op, .string ⟨y.reg.toArray⟩, .string ⟨y.loc.toArray⟩, .string ⟨y.label.toArray⟩, .int .i64 y.n] 60))) (fun hHeld => ?_)
              clear hK K
              (try simp only [Act.put, List.getElem_toArray, List.getElem_cons_zero, List.getElem_cons_succ, Array.getInternal_eq_getElem, List.setIfInBounds_toArray, List.set_cons_zero, List.set_cons_succ])
              obtain ⟨X7, hX7⟩ : ∃ W, W = X0.alloc (.cells #[.int .i64 y.op, .string ⟨y.reg.toArray⟩, .string ⟨y.loc.toArray⟩, .string ⟨y.label.toArray⟩, .int .i64 y.n] 60) := ⟨_, rfl⟩
              have HWX7 := Lib.hid (show WS w1 60 56 lnsCs gm ths.length gy (lnCs y) vs vs RS X7 from by rw [hX7]; exact HWX0.out.alloc _)
              have HF := Lib.hid (fun (i : Nat) (u : Value) (h : (lnCs y)[i]? = some u) => (show X7.cell? ⟨X0.heap.size, i, none⟩ = some u from by
                have e := World.news_of_block (heap_alloc_new X0 (.cells #[.int .i64 y.op, .string ⟨y.reg.toArray⟩, .string ⟨y.loc.toArray⟩, .string ⟨y.label.toArray⟩, .int .i64 y.n] 60)) i u h
                rw [Addr.add_lit, Nat.zero_add] at e
                rw [hX7]; exact e))
              rw [← hX7] at hHeld ⊢
              clear hX7
              refine wpAnyH_ready (rs := [8]) (by kernel_rfl) (by simp) ?_
              refine AllReadyH.cons rfl (fun K hK => ?_) AllReadyH.nil
              refine step_append_at (by rfl) _ _ _ (by rfl) w1.heap.size 60 i0 (.agg #[.int .i64 0, .string ⟨#[]⟩, .string ⟨#[]⟩, .string ⟨#[]⟩, .int .i64 0]) 5 64 Try.underlying56 hi0 hz0 hz1 hz2 (by rfl) (by decide) _ N (lnsCs pt) (by rfl) (HOW.out _ _ _ _ HWX7.out) ⟨X0.heap.size, 0, none⟩ 1 1 (lnCs y) (by rfl) (by rfl) (fun i u h => by rw [Addr.add_lit, Nat.zero_add]; exact HF.out i u h) (HON.out) (by unfold maxLen; omega) (by omega) HWX7.out.below.size (fun v8 w8 hown8 hg8 hat8 => ?_)
              obtain ⟨A8, c8, rfl⟩ := own_slice hown8
              have HWw8 := Lib.hid (show WS w1 60 56 lnsCs gm ths.length gy (lnCs y) vs (vs.set j (.slice A8 (N + 1) c8)) (RS.set j (pt ++ [y])) w8 from HWX7.out.append (by decide) huM (by rw [HNL.out, HCS.out]; exact hown8) hg8 hat8)
              clear hown8 hg8 hat8 HF
              refine hK.out _ _ (HP.out _ _ _ _ HWw8.out) (fun hHeld => ?_)
              clear hK K
              (try simp only [Act.put, List.getElem_toArray, List.getElem_cons_zero, List.getElem_cons_succ, Array.getInternal_eq_getElem, List.setIfInBounds_toArray, List.set_cons_zero, List.set_cons_succ])
              refine wpAnyH_take (i := 9) (v := ?_) rfl (by kernel_rfl) (by kernel_rfl) (by kernel_rfl) (fun _ _ _ h => h) (Or.inl ⟨by rfl, ?_⟩) (by assumption) ?_
              rotate_left
              · intro w hSw; (try dsimp only at hSw); go_simp; (try with_reducible rfl)
              (try simp only [Act.put, List.getElem_toArray, List.getElem_cons_zero, List.getElem_cons_succ, Array.getInternal_eq_getElem, List.setIfInBounds_toArray, List.set_cons_zero, List.set_cons_succ])
              refine wpAnyH_ready (rs := [10]) (by kernel_rfl) (by simp) ?_
              refine AllReadyH.cons rfl (fun K hK => ?_) AllReadyH.nil
              have c9 := HWw8.out.load hjn huM
              have f9 := HWw8.out.frz j
              go_simp
              have HW9 := Lib.hid (HWw8.out.store (by decide) rfl)
              refine hK.out _ _ (HP.out _ _ _ _ HW9.out) (fun hHeld => ?_)
              clear hK K
              (try simp only [Act.put, List.getElem_toArray, List.getElem_cons_zero, List.getElem_cons_succ, Array.getInternal_eq_getElem, List.setIfInBounds_toArray, List.set_cons_zero, List.set_cons_succ])
              refine wpAnyH_done (by kernel_rfl) ?_ _
              clear c9 f9 hHeld
              go_wp2_with fail
              go_roundw
              case rel => exact ⟨k + 1, _, gy, _, by omega, by go_num, by rw [HPN2.out, ← HRS.out]; exact HW9.out⟩
              case measure => simp [intOf]; omega
            · -- 7 first
              go_simp
              refine hK.out _ _ (HP.out _ _ _ _ (HWX0.out.alloc (.cells #[.int .i64 y.op, .string ⟨y.reg.toArray⟩, .string ⟨y.loc.toArray⟩, .string ⟨y.label.toArray⟩, .int .i64 y.n] 60))) (fun hHeld => ?_)
              clear hK K
              (try simp only [Act.put, List.getElem_toArray, List.getElem_cons_zero, List.getElem_cons_succ, Array.getInternal_eq_getElem, List.setIfInBounds_toArray, List.set_cons_zero, List.set_cons_succ])
              obtain ⟨X7, hX7⟩ : ∃ W, W = X0.alloc (.cells #[.int .i64 y.op, .string ⟨y.reg.toArray⟩, .string ⟨y.loc.toArray⟩, .string ⟨y.label.toArray⟩, .int .i64 y.n] 60) := ⟨_, rfl⟩
              have HWX7 := Lib.hid (show WS w1 60 56 lnsCs gm ths.length gy (lnCs y) vs vs RS X7 from by rw [hX7]; exact HWX0.out.alloc _)
              have HF := Lib.hid (fun (i : Nat) (u : Value) (h : (lnCs y)[i]? = some u) => (show X7.cell? ⟨X0.heap.size, i, none⟩ = some u from by
                have e := World.news_of_block (heap_alloc_new X0 (.cells #[.int .i64 y.op, .string ⟨y.reg.toArray⟩, .string ⟨y.loc.toArray⟩, .string ⟨y.label.toArray⟩, .int .i64 y.n] 60)) i u h
                rw [Addr.add_lit, Nat.zero_add] at e
                rw [hX7]; exact e))
              rw [← hX7] at hHeld ⊢
              clear hX7
              refine wpAnyH_ready (rs := [5]) (by kernel_rfl) (by simp) ?_
              refine AllReadyH.cons rfl (fun K hK => ?_) AllReadyH.nil
              have c39 := HWX7.out.load hjn huM
              go_simp
              refine hK.out _ _ (HP.out _ _ _ _ HWX7.out) (fun hHeld => ?_)
              clear hK K
              (try simp only [Act.put, List.getElem_toArray, List.getElem_cons_zero, List.getElem_cons_succ, Array.getInternal_eq_getElem, List.setIfInBounds_toArray, List.set_cons_zero, List.set_cons_succ])
              clear c39
              refine wpAnyH_ready (rs := [8]) (by kernel_rfl) (by simp) ?_
              refine AllReadyH.cons rfl (fun K hK => ?_) AllReadyH.nil
              refine step_append_at (by rfl) _ _ _ (by rfl) w1.heap.size 60 i0 (.agg #[.int .i64 0, .string ⟨#[]⟩, .string ⟨#[]⟩, .string ⟨#[]⟩, .int .i64 0]) 5 64 Try.underlying56 hi0 hz0 hz1 hz2 (by rfl) (by decide) _ N (lnsCs pt) (by rfl) (HOW.out _ _ _ _ HWX7.out) ⟨X0.heap.size, 0, none⟩ 1 1 (lnCs y) (by rfl) (by rfl) (fun i u h => by rw [Addr.add_lit, Nat.zero_add]; exact HF.out i u h) (HON.out) (by unfold maxLen; omega) (by omega) HWX7.out.below.size (fun v8 w8 hown8 hg8 hat8 => ?_)
              obtain ⟨A8, c8, rfl⟩ := own_slice hown8
              have HWw8 := Lib.hid (show WS w1 60 56 lnsCs gm ths.length gy (lnCs y) vs (vs.set j (.slice A8 (N + 1) c8)) (RS.set j (pt ++ [y])) w8 from HWX7.out.append (by decide) huM (by rw [HNL.out, HCS.out]; exact hown8) hg8 hat8)
              clear hown8 hg8 hat8 HF
              refine hK.out _ _ (HP.out _ _ _ _ HWw8.out) (fun hHeld => ?_)
              clear hK K
              (try simp only [Act.put, List.getElem_toArray, List.getElem_cons_zero, List.getElem_cons_succ, Array.getInternal_eq_getElem, List.setIfInBounds_toArray, List.set_cons_zero, List.set_cons_succ])
              refine wpAnyH_take (i := 9) (v := ?_) rfl (by kernel_rfl) (by kernel_rfl) (by kernel_rfl) (fun _ _ _ h => h) (Or.inl ⟨by rfl, ?_⟩) (by assumption) ?_
              rotate_left
              · intro w hSw; (try dsimp only at hSw); go_simp; (try with_reducible rfl)
              (try simp only [Act.put, List.getElem_toArray, List.getElem_cons_zero, List.getElem_cons_succ, Array.getInternal_eq_getElem, List.setIfInBounds_toArray, List.set_cons_zero, List.set_cons_succ])
              refine wpAnyH_ready (rs := [10]) (by kernel_rfl) (by simp) ?_
              refine AllReadyH.cons rfl (fun K hK => ?_) AllReadyH.nil
              have c9 := HWw8.out.load hjn huM
              have f9 := HWw8.out.frz j
              go_simp
              have HW9 := Lib.hid (HWw8.out.store (by decide) rfl)
              refine hK.out _ _ (HP.out _ _ _ _ HW9.out) (fun hHeld => ?_)
              clear hK K
              (try simp only [Act.put, List.getElem_toArray, List.getElem_cons_zero, List.getElem_cons_succ, Array.getInternal_eq_getElem, List.setIfInBounds_toArray, List.set_cons_zero, List.set_cons_succ])
              refine wpAnyH_done (by kernel_rfl) ?_ _
              clear c9 f9 hHeld
              go_wp2_with fail
              go_roundw
              case rel => exact ⟨k + 1, _, gy, _, by omega, by go_num, by rw [HPN2.out, ← HRS.out]; exact HW9.out⟩
              case measure => simp [intOf]; omega
          · have HPN2 := Lib.hid (show witN (fun q => f (j : Int) (q : Int)) ss (k + 1) = pt by rw [HPN.out]; simp)
            clear hpt
            go_wp2_with (at_lookup; refine at_lookP _ rfl _ _ rfl mp _ rfl w1 HM1.out HMw.out (j : Int) (k : Int) rfl wj wk ?_; rw [hfk]; try go_frame)
            go_roundw
            case rel => exact ⟨k + 1, _, _, _, by omega, by go_num, by rw [HPN2.out]; exact HW0.out⟩
            case measure => simp [intOf]; omega
        · obtain rfl : ss.length = k := by omega
          go_wp2
          go_roundw
          case rel => exact ⟨j + 1, vs, gy0, yv, by omega, by go_num, by rw [← HFU.out]; exact hW⟩
          case measure => simp [intOf]; omega
    · obtain rfl : ths.length = j := by omega
      rw [rowsAt_end] at hW
      go_wp2
      go_ret
      exact ⟨gm, vs, rfl, own_base hW.more HBS.out.size, ⟨hW.rows.len, fun i hi => by obtain ⟨u, h1, h2⟩ := hW.rows.own i hi; exact ⟨u, h1, own_base h2 HBS.out.size⟩, hW.rows.apart⟩, HBS.out.trans (hW.below.mono HBS.out.size)⟩
end Go.Proofs.Ytaelfjphgdlbcaa
namespace Go.Proofs.Ytaelfjphgdlbcaa
open Go.RowKit
set_option linter.unusedVariables false
set_option linter.unusedSimpArgs false
open WordM (L)
open CodM (St Pg)
open VM (Fl)
open SlM

section
variable {A : Type} {one : A → List Value} {s : Nat}
theorem flat_len (h : ∀ a, (one a).length = s) : ∀ l : List A, (l.flatMap one).length = l.length * s
  | [] => by simp
  | a :: r => by rw [List.flatMap_cons, List.length_append, h a, flat_len h r, List.length_cons, Nat.succ_mul, Nat.add_comm]
theorem flat_at (h : ∀ a, (one a).length = s) : ∀ (l : List A) (j i : Nat) (hj : j < l.length), i < s → (l.flatMap one)[j * s + i]? = (one l[j])[i]?
  | [], j, i, hj, _ => absurd hj (Nat.not_lt_zero j)
  | a :: r, 0, i, hj, hi => by rw [List.flatMap_cons, Nat.zero_mul, Nat.zero_add, List.getElem?_append_left (by rw [h a]; exact hi)]; rfl
  | a :: r, j + 1, i, hj, hi => by
    rw [List.flatMap_cons, List.getElem?_append_right (by rw [h a, Nat.succ_mul]; omega), h a, show (j + 1) * s + i - s = j * s + i by rw [Nat.succ_mul]; omega, flat_at h r j i (by simpa using hj) hi]; rfl
theorem flat_src (hs : 0 < s) (h : ∀ a, (one a).length = s) {w : World} {b f : Nat} {l : List A} (hc : ∀ j (hj : j < l.length) i, i < s → w.cell? ⟨b, f + j * s + i, none⟩ = (one l[j])[i]?) : ∀ (q : Nat) (u : Value), (l.flatMap one)[q]? = some u → w.cell? ⟨b, f + q, none⟩ = some u := by
  intro q u hu
  have hq : q < l.length * s := by rw [← flat_len h]; exact (List.getElem?_eq_some_iff.1 hu).1
  have h1 : q / s < l.length := (Nat.div_lt_iff_lt_mul hs).2 hq
  have h2 : q % s < s := Nat.mod_lt _ hs
  have e : q = q / s * s + q % s := by rw [Nat.mul_comm]; exact (Nat.div_add_mod q s).symm
  have e2 := hc (q / s) h1 (q % s) h2
  rw [← flat_at h l (q / s) (q % s) h1 h2, ← e, Nat.add_assoc, ← e, hu] at e2
  exact e2
theorem flat_own (h : ∀ a, (one a).length = s) {w : World} {base : Nat} {T : TypeId} {v : Value} {l : List A} (ho : w.ownsRow base T s v l.length (l.flatMap one)) :
    (v = .slice none 0 0 ∧ l.length = 0) ∨ ∃ g cap, v = .slice (some ⟨g, 0, none⟩) l.length cap ∧ g < w.heap.size ∧ l.length ≤ cap ∧ cap ≤ maxLen ∧ ∀ j (hj : j < l.length) i, i < s → w.cell? ⟨g, j * s + i, none⟩ = (one l[j])[i]? := by
  rcases id ho.2 with ⟨rfl, h0⟩ | ⟨g, cap, cur, rfl, hbg, hg, hnc, hcm, hcs, htake⟩
  · exact .inl ⟨rfl, h0⟩
  · refine .inr ⟨g, cap, rfl, (Array.getElem?_eq_some_iff.1 hg).1, hnc, hcm, fun j hj i hi => ?_⟩
    have hb : j * s + i < l.length * s := by
      have : (j + 1) * s ≤ l.length * s := Nat.mul_le_mul_right s hj
      rw [Nat.succ_mul] at this; omega
    rw [ho.cellAt (j * s + i) hb, flat_at h l j i hj hi]
end
def clC (c : L × Int) : List Value := [.string ⟨c.1.toArray⟩, .int .i64 c.2]
def amC (a : AtomM.At) : List Value := [.int .i64 a.t, .string ⟨a.nm.toArray⟩, .int .i64 a.n]
def inC (n : Int) : List Value := [.int .i64 n]
theorem ints_own {w : World} {base B : Nat} {T : TypeId} {v : Value} {l : List Int} (h : w.ownsRow base T 1 v l.length (l.flatMap inC)) (hB : w.heap.size ≤ B) : Ints B w v l := by
  rcases flat_own (one := inC) (s := 1) (fun _ => rfl) h with ⟨rfl, h0⟩ | ⟨g, cap, rfl, hg, h1, h2, hc⟩
  · exact ⟨none, 0, by rw [h0], by omega, by decide, fun k => absurd k (by omega)⟩
  · refine ⟨_, cap, rfl, h1, h2, fun _ => ⟨g, 0, rfl, by omega, fun j hj => ?_⟩⟩
    have := hc j hj 0 (by omega)
    rw [Nat.mul_one, Nat.add_zero] at this
    unfold IntAt; rw [Nat.zero_add]; exact this
theorem cls_own {w : World} {base B : Nat} {T : TypeId} {v : Value} {l : List (L × Int)} (h : w.ownsRow base T 2 v l.length (l.flatMap clC)) (hB : w.heap.size ≤ B) : Cls B w v l := by
  rcases flat_own (one := clC) (s := 2) (fun _ => rfl) h with ⟨rfl, h0⟩ | ⟨g, cap, rfl, hg, h1, h2, hc⟩
  · exact ⟨none, 0, by rw [h0], by omega, by decide, fun k => absurd k (by omega)⟩
  · refine ⟨_, cap, rfl, h1, h2, fun _ => ⟨g, 0, rfl, by omega, fun j hj => ?_⟩⟩
    have c0 := hc j hj 0 (by omega)
    have c1 := hc j hj 1 (by omega)
    unfold ClAt; rw [Nat.zero_add]; exact ⟨c0, c1⟩
theorem ams_own {w : World} {base B : Nat} {T : TypeId} {v : Value} {l : List AtomM.At} (h : w.ownsRow base T 3 v l.length (l.flatMap amC)) (hB : w.heap.size ≤ B) : Ams B w v l := by
  rcases flat_own (one := amC) (s := 3) (fun _ => rfl) h with ⟨rfl, h0⟩ | ⟨g, cap, rfl, hg, h1, h2, hc⟩
  · exact ⟨none, 0, by rw [h0], by omega, by decide, fun k => absurd k (by omega)⟩
  · refine ⟨_, cap, rfl, h1, h2, fun _ => ⟨g, 0, rfl, by omega, fun j hj => ?_⟩⟩
    have c0 := hc j hj 0 (by omega)
    have c1 := hc j hj 1 (by omega)
    have c2 := hc j hj 2 (by omega)
    unfold AmAt; rw [Nat.zero_add]; exact ⟨c0, c1, c2⟩
theorem info_cin : (Try.prog.info? 3).map (fun i => (i.zero, i.size, i.bytes)) = some (some (.int .i64 0), 1, 8) := by kernel_rfl
theorem info_ccl : (Try.prog.info? 62).map (fun i => (i.zero, i.size, i.bytes)) = some (some (.agg #[.string ⟨#[]⟩, .int .i64 0]), 2, 24) := by kernel_rfl
theorem info_cam : (Try.prog.info? 64).map (fun i => (i.zero, i.size, i.bytes)) = some (some (.agg #[.int .i64 0, .string ⟨#[]⟩, .int .i64 0]), 3, 32) := by kernel_rfl
set_option maxHeartbeats 4000000 in
set_option maxRecDepth 100000 in
theorem clonei_any {B : Nat} {v : Value} {l : List (Int)} (w : World) (hv : Ints B w v l) (hBB : B ≤ w.heap.size) (hl : l.length ≤ 1000000) :
    Calls Try.prog 47 #[v] w fun e w' => ∃ u, e = .returned u ∧ w'.ownsRow w.heap.size 3 1 u l.length (l.flatMap inC) ∧ Below w.heap.size w w' := by
  obtain ⟨A, c, rfl, h1, h2, h3⟩ := hv
  unfold maxLen at h2
  obtain ⟨i0, hi0, hz0, hz1, hz2⟩ := info_parts info_cin
  have heq := fun (W : World) (a : Option Addr) (n c : Nat) => Lib.run_eql_slice_nil (P := Try.prog) W 22 3 a n c 0 0 Try.underlying22
  cases A with
  | none =>
    have h0 : l.length = 0 := by
      rcases Nat.eq_zero_or_pos l.length with h | h
      · exact h
      · obtain ⟨b, f, e, _⟩ := h3 h; cases e
    have HE := Lib.hid (List.eq_nil_of_length_eq_zero h0)
    clear h0 h1 h2 h3
    go_enter Try.func47, Try.ntmps47
    go_wp2
    go_ret
    rw [HE.out]
    exact ⟨_, rfl, World.ownsRow_nil _ _ _ _, Below.refl _ _⟩
  | some ad =>
    obtain ⟨b, f, sp⟩ := ad
    have HC := Lib.hid (show ∀ (q : Nat) (u : Value), (l.flatMap inC)[q]? = some u → (w.alloc (.cells #[] 3)).cell? ((⟨b, f, sp⟩ : Addr).add q) = some u from fun q u hu => by
      have hp : 0 < l.length := by
        rcases Nat.eq_zero_or_pos l.length with h | h
        · rw [List.eq_nil_of_length_eq_zero h] at hu; cases hu
        · exact h
      obtain ⟨b', f', e, hb, hc⟩ := h3 hp
      injection e with e; injection e with e1 e2 e3; subst e1; subst e2; subst e3
      rw [Addr.add_lit]
      have := flat_src (one := inC) (s := 1) (by decide) (fun _ => rfl) (l := l) (w := w) (b := b) (f := f) (fun j hj i hi => by
        have := hc j hj; unfold IntAt at this; obtain rfl : i = 0 := by omega
        rw [Nat.mul_one, Nat.add_zero]; exact this) q u hu
      exact kc (below_al (Below.refl _ _) _) this)
    have HL := Lib.hid (flat_len (one := inC) (s := 1) (fun _ => rfl) l)
    have HO := Lib.hid (show (w.alloc (.cells #[] 3)).ownsRow w.heap.size 3 1 (.slice (some ⟨w.heap.size, 0, none⟩) 0 0) 0 [] from by
      have := World.ownsRow_lit (base := w.heap.size) (e := 3) (size := 1) w #[] 0 (Nat.le_refl _) (by decide) rfl
      simpa using this)
    have HON := Lib.hid (show ∀ u ∈ l.flatMap inC, u.oneCell' = true from fun u hu => by
      obtain ⟨x, _, hx⟩ := List.mem_flatMap.1 hu
      simp only [inC, List.mem_cons, List.not_mem_nil, or_false] at hx
      subst hx; rfl)
    have hB1 := below_al (Below.refl w.heap.size w) (.cells #[] 3)
    clear h3
    go_enter Try.func47, Try.ntmps47
    go_wp2_with (at_builtin; refine wpList_append_own _ rfl _ _ 22 rfl w.heap.size 3 i0 (.int .i64 0) 1 8 Try.underlying22 hi0 hz0 hz1 hz2 rfl (by decide) _ 0 [] rfl HO.out ⟨b, f, sp⟩ l.length c (l.flatMap inC) rfl HL.out HC.out HON.out (by unfold maxLen; omega) (by omega) (by simp) ?_; intro v1 w1 hown1 hg1 _; obtain ⟨A8, c8, rfl⟩ := own_slice hown1)
    go_ret
    simp only [Nat.zero_add, List.nil_append] at hown1
    refine ⟨_, rfl, hown1, below_append hB1 HO.out (Nat.le_refl _) (by simp) hg1⟩
set_option maxHeartbeats 4000000 in
set_option maxRecDepth 100000 in
theorem clonec_any {B : Nat} {v : Value} {l : List (L × Int)} (w : World) (hv : Cls B w v l) (hBB : B ≤ w.heap.size) (hl : l.length ≤ 1000000) :
    Calls Try.prog 60 #[v] w fun e w' => ∃ u, e = .returned u ∧ w'.ownsRow w.heap.size 62 2 u l.length (l.flatMap clC) ∧ Below w.heap.size w w' := by
  obtain ⟨A, c, rfl, h1, h2, h3⟩ := hv
  unfold maxLen at h2
  obtain ⟨i0, hi0, hz0, hz1, hz2⟩ := info_parts info_ccl
  have heq := fun (W : World) (a : Option Addr) (n c : Nat) => Lib.run_eql_slice_nil (P := Try.prog) W 26 62 a n c 0 0 Try.underlying26
  cases A with
  | none =>
    have h0 : l.length = 0 := by
      rcases Nat.eq_zero_or_pos l.length with h | h
      · exact h
      · obtain ⟨b, f, e, _⟩ := h3 h; cases e
    have HE := Lib.hid (List.eq_nil_of_length_eq_zero h0)
    clear h0 h1 h2 h3
    go_enter Try.func60, Try.ntmps60
    go_wp2
    go_ret
    rw [HE.out]
    exact ⟨_, rfl, World.ownsRow_nil _ _ _ _, Below.refl _ _⟩
  | some ad =>
    obtain ⟨b, f, sp⟩ := ad
    have HC := Lib.hid (show ∀ (q : Nat) (u : Value), (l.flatMap clC)[q]? = some u → (w.alloc (.cells #[] 62)).cell? ((⟨b, f, sp⟩ : Addr).add q) = some u from fun q u hu => by
      have hp : 0 < l.length := by
        rcases Nat.eq_zero_or_pos l.length with h | h
        · rw [List.eq_nil_of_length_eq_zero h] at hu; cases hu
        · exact h
      obtain ⟨b', f', e, hb, hc⟩ := h3 hp
      injection e with e; injection e with e1 e2 e3; subst e1; subst e2; subst e3
      rw [Addr.add_lit]
      have := flat_src (one := clC) (s := 2) (by decide) (fun _ => rfl) (l := l) (w := w) (b := b) (f := f) (fun j hj i hi => by
        obtain ⟨c0, c1⟩ := hc j hj
        rcases (show i = 0 ∨ i = 1 by omega) with rfl | rfl
        · exact c0
        · exact c1) q u hu
      exact kc (below_al (Below.refl _ _) _) this)
    have HL := Lib.hid (flat_len (one := clC) (s := 2) (fun _ => rfl) l)
    have HO := Lib.hid (show (w.alloc (.cells #[] 62)).ownsRow w.heap.size 62 2 (.slice (some ⟨w.heap.size, 0, none⟩) 0 0) 0 [] from by
      have := World.ownsRow_lit (base := w.heap.size) (e := 62) (size := 2) w #[] 0 (Nat.le_refl _) (by decide) rfl
      simpa using this)
    have HON := Lib.hid (show ∀ u ∈ l.flatMap clC, u.oneCell' = true from fun u hu => by
      obtain ⟨x, _, hx⟩ := List.mem_flatMap.1 hu
      simp only [clC, List.mem_cons, List.not_mem_nil, or_false] at hx
      rcases hx with rfl | rfl <;> rfl)
    have hB1 := below_al (Below.refl w.heap.size w) (.cells #[] 62)
    clear h3
    go_enter Try.func60, Try.ntmps60
    go_wp2_with (at_builtin; refine wpList_append_own _ rfl _ _ 26 rfl w.heap.size 62 i0 (.agg #[.string ⟨#[]⟩, .int .i64 0]) 2 24 Try.underlying26 hi0 hz0 hz1 hz2 rfl (by decide) _ 0 [] rfl HO.out ⟨b, f, sp⟩ l.length c (l.flatMap clC) rfl HL.out HC.out HON.out (by unfold maxLen; omega) (by omega) (by simp) ?_; intro v1 w1 hown1 hg1 _; obtain ⟨A8, c8, rfl⟩ := own_slice hown1)
    go_ret
    simp only [Nat.zero_add, List.nil_append] at hown1
    refine ⟨_, rfl, hown1, below_append hB1 HO.out (Nat.le_refl _) (by simp) hg1⟩
set_option maxHeartbeats 4000000 in
set_option maxRecDepth 100000 in
theorem clonea_any {B : Nat} {v : Value} {l : List (AtomM.At)} (w : World) (hv : Ams B w v l) (hBB : B ≤ w.heap.size) (hl : l.length ≤ 1000000) :
    Calls Try.prog 61 #[v] w fun e w' => ∃ u, e = .returned u ∧ w'.ownsRow w.heap.size 64 3 u l.length (l.flatMap amC) ∧ Below w.heap.size w w' := by
  obtain ⟨A, c, rfl, h1, h2, h3⟩ := hv
  unfold maxLen at h2
  obtain ⟨i0, hi0, hz0, hz1, hz2⟩ := info_parts info_cam
  have heq := fun (W : World) (a : Option Addr) (n c : Nat) => Lib.run_eql_slice_nil (P := Try.prog) W 28 64 a n c 0 0 Try.underlying28
  cases A with
  | none =>
    have h0 : l.length = 0 := by
      rcases Nat.eq_zero_or_pos l.length with h | h
      · exact h
      · obtain ⟨b, f, e, _⟩ := h3 h; cases e
    have HE := Lib.hid (List.eq_nil_of_length_eq_zero h0)
    clear h0 h1 h2 h3
    go_enter Try.func61, Try.ntmps61
    go_wp2
    go_ret
    rw [HE.out]
    exact ⟨_, rfl, World.ownsRow_nil _ _ _ _, Below.refl _ _⟩
  | some ad =>
    obtain ⟨b, f, sp⟩ := ad
    have HC := Lib.hid (show ∀ (q : Nat) (u : Value), (l.flatMap amC)[q]? = some u → (w.alloc (.cells #[] 64)).cell? ((⟨b, f, sp⟩ : Addr).add q) = some u from fun q u hu => by
      have hp : 0 < l.length := by
        rcases Nat.eq_zero_or_pos l.length with h | h
        · rw [List.eq_nil_of_length_eq_zero h] at hu; cases hu
        · exact h
      obtain ⟨b', f', e, hb, hc⟩ := h3 hp
      injection e with e; injection e with e1 e2 e3; subst e1; subst e2; subst e3
      rw [Addr.add_lit]
      have := flat_src (one := amC) (s := 3) (by decide) (fun _ => rfl) (l := l) (w := w) (b := b) (f := f) (fun j hj i hi => by
        obtain ⟨c0, c1, c2⟩ := hc j hj
        rcases (show i = 0 ∨ i = 1 ∨ i = 2 by omega) with rfl | rfl | rfl
        · exact c0
        · exact c1
        · exact c2) q u hu
      exact kc (below_al (Below.refl _ _) _) this)
    have HL := Lib.hid (flat_len (one := amC) (s := 3) (fun _ => rfl) l)
    have HO := Lib.hid (show (w.alloc (.cells #[] 64)).ownsRow w.heap.size 64 3 (.slice (some ⟨w.heap.size, 0, none⟩) 0 0) 0 [] from by
      have := World.ownsRow_lit (base := w.heap.size) (e := 64) (size := 3) w #[] 0 (Nat.le_refl _) (by decide) rfl
      simpa using this)
    have HON := Lib.hid (show ∀ u ∈ l.flatMap amC, u.oneCell' = true from fun u hu => by
      obtain ⟨x, _, hx⟩ := List.mem_flatMap.1 hu
      simp only [amC, List.mem_cons, List.not_mem_nil, or_false] at hx
      rcases hx with rfl | rfl | rfl <;> rfl)
    have hB1 := below_al (Below.refl w.heap.size w) (.cells #[] 64)
    clear h3
    go_enter Try.func61, Try.ntmps61
    go_wp2_with (at_builtin; refine wpList_append_own _ rfl _ _ 28 rfl w.heap.size 64 i0 (.agg #[.int .i64 0, .string ⟨#[]⟩, .int .i64 0]) 3 32 Try.underlying28 hi0 hz0 hz1 hz2 rfl (by decide) _ 0 [] rfl HO.out ⟨b, f, sp⟩ l.length c (l.flatMap amC) rfl HL.out HC.out HON.out (by unfold maxLen; omega) (by omega) (by simp) ?_; intro v1 w1 hown1 hg1 _; obtain ⟨A8, c8, rfl⟩ := own_slice hown1)
    go_ret
    simp only [Nat.zero_add, List.nil_append] at hown1
    refine ⟨_, rfl, hown1, below_append hB1 HO.out (Nat.le_refl _) (by simp) hg1⟩
theorem jump_any (x : St) (w : World) :
    Calls Try.prog 50 #[.agg #[.int .i64 x.op, .int .i64 x.reg, .int .i64 x.loc, .int .i64 x.n, .int .i64 x.to]] w fun e w' => e = .returned (.bool (jmpS x)) ∧ Below w.heap.size w w' := by
  have hB := below_al (Below.refl w.heap.size w) (.cells #[.int .i64 x.op, .int .i64 x.reg, .int .i64 x.loc, .int .i64 x.n, .int .i64 x.to] 53)
  go_enter Try.func50, Try.ntmps50
  go_wp2
  all_goals go_ret
  all_goals exact ⟨by simp [jmpS, *, Bool.or_assoc], below_al (Below.refl _ _) _⟩
set_option maxHeartbeats 2000000 in
set_option maxRecDepth 100000 in
theorem land_any {bp N ge gf gt t len : Nat} {f : Int → Int → Bool} (tn : Nat) (w : World) (ce : w.cell? ⟨ge, 0, none⟩ = some (.int .i64 (len : Int))) (cf : w.cell? ⟨gf, 0, none⟩ = some (.map (some bp))) (ct : w.cell? ⟨gt, 0, none⟩ = some (.int .i64 (t : Int)))
    (hm : MapP w bp N f) (hl : len ≤ 1000000) (ht : t ≤ 1000000) (hto : tn ≤ 1000000) :
    Calls Try.prog 65 #[.int .i64 (tn : Int), .pointer (some ⟨ge, 0, none⟩), .pointer (some ⟨gf, 0, none⟩), .pointer (some ⟨gt, 0, none⟩)] w fun e w' => e = .returned (.int .i64 (land (fun k => f (t : Int) (k : Int)) len tn)) ∧ w' = w := by
  obtain ⟨m, hmi⟩ : ∃ m : Nat, m = min tn len := ⟨_, rfl⟩
  have HLA := Lib.hid (show land (fun k => f (t : Int) (k : Int)) len tn = (tn : Int) + (cntC (fun k => f (t : Int) (k : Int)) m : Nat) by unfold land; rw [hmi]; congr 3; omega)
  have hml : m ≤ 1000000 := by omega
  have HCN := Lib.hid (fun k => show cntC (fun k => f (t : Int) (k : Int)) (k + 1) = cntC (fun k => f (t : Int) (k : Int)) k + (if f (t : Int) (k : Int) then 1 else 0) from rfl)
  have HC0 := Lib.hid (show cntC (fun k => f (t : Int) (k : Int)) 0 = 0 from rfl)
  have HCL := Lib.hid (fun k => cntC_le (fun k => f (t : Int) (k : Int)) k)
  generalize cntC (fun k => f (t : Int) (k : Int)) = C at *
  have wt : (Lit.int .i64 (t : Int)).wf = true := WalkArith.wf_i64 (by omega)
  by_cases hc : tn ≤ len
  · obtain rfl : m = tn := by omega
    clear hmi
    have hci : (m : Int) ≤ (len : Int) := by omega
    go_enter Try.func65, Try.ntmps65
    go_wp2
    go_loopw [6, 12] (fun v i wr => ∃ k : Nat, k ≤ m ∧ i = .int .i64 k ∧ v = .int .i64 ((m : Int) + (C k : Nat)) ∧ wr = w) (fun _ i _ => m - (intOf i).toNat)
    case atStart => exact ⟨0, Nat.zero_le _, rfl, by rw [HC0.out]; simp, rfl⟩
    case round =>
      obtain ⟨k, hk, rfl, rfl, rfl⟩ := hrel
      by_cases hlt : k < m
      · have wk : (Lit.int .i64 (k : Int)).wf = true := WalkArith.wf_i64 (by omega)
        have hcn := Lib.hid (HCN.out k)
        have hcl := HCL.out k
        obtain ⟨q, hq⟩ : ∃ q, q = C k := ⟨_, rfl⟩
        rw [← hq] at hcn hcl ⊢
        clear hq
        cases hfk : f (t : Int) (k : Int)
        · go_wp2_with (at_lookup; refine at_mapP _ rfl _ _ rfl bp N _ rfl hm (t : Int) (k : Int) rfl wt wk ?_; rw [hfk]; try go_frame)
          go_roundw
          case rel => exact ⟨k + 1, by omega, by go_num, by rw [hcn.out, hfk]; simp, by simp⟩
          case measure => simp [intOf]; omega
        · go_wp2_with (at_lookup; refine at_mapP _ rfl _ _ rfl bp N _ rfl hm (t : Int) (k : Int) rfl wt wk ?_; rw [hfk]; try go_frame)
          go_roundw
          case rel => exact ⟨k + 1, by omega, by go_num, by rw [hcn.out, hfk]; simp; omega, by simp⟩
          case measure => simp [intOf]; omega
      · obtain rfl : m = k := by omega
        go_wp2
        go_ret
        exact ⟨by rw [HLA.out]; rfl, rfl⟩
  · obtain rfl : m = len := by omega
    clear hmi
    have hci : ¬ (tn : Int) ≤ (m : Int) := by omega
    have hci2 : (m : Int) < (tn : Int) := by omega
    go_enter Try.func65, Try.ntmps65
    go_wp2
    go_loopw [6, 12] (fun v i wr => ∃ k : Nat, k ≤ m ∧ i = .int .i64 k ∧ v = .int .i64 ((tn : Int) + (C k : Nat)) ∧ wr = w) (fun _ i _ => m - (intOf i).toNat)
    case atStart => exact ⟨0, Nat.zero_le _, rfl, by rw [HC0.out]; simp, rfl⟩
    case round =>
      obtain ⟨k, hk, rfl, rfl, rfl⟩ := hrel
      by_cases hlt : k < m
      · have wk : (Lit.int .i64 (k : Int)).wf = true := WalkArith.wf_i64 (by omega)
        have hcn := Lib.hid (HCN.out k)
        have hcl := HCL.out k
        obtain ⟨q, hq⟩ : ∃ q, q = C k := ⟨_, rfl⟩
        rw [← hq] at hcn hcl ⊢
        clear hq
        cases hfk : f (t : Int) (k : Int)
        · go_wp2_with (at_lookup; refine at_mapP _ rfl _ _ rfl bp N _ rfl hm (t : Int) (k : Int) rfl wt wk ?_; rw [hfk]; try go_frame)
          go_roundw
          case rel => exact ⟨k + 1, by omega, by go_num, by rw [hcn.out, hfk]; simp, by simp⟩
          case measure => simp [intOf]; omega
        · go_wp2_with (at_lookup; refine at_mapP _ rfl _ _ rfl bp N _ rfl hm (t : Int) (k : Int) rfl wt wk ?_; rw [hfk]; try go_frame)
          go_roundw
          case rel => exact ⟨k + 1, by omega, by go_num, by rw [hcn.out, hfk]; simp; omega, by simp⟩
          case measure => simp [intOf]; omega
      · obtain rfl : m = k := by omega
        go_wp2
        go_ret
        exact ⟨by rw [HLA.out]; rfl, rfl⟩
set_option maxHeartbeats 4000000 in
set_option maxRecDepth 100000 in
theorem linesof_any {B : Nat} {v : Value} {F : Fl} (w : World) (hv : FlV B w v F) (hBB : B ≤ w.heap.size) (hl : F.ths.length ≤ 1000000) :
    Calls Try.prog 36 #[v] w fun e w' => ∃ gm vs, e = .returned (.slice (some ⟨gm, 0, none⟩) F.ths.length F.ths.length) ∧ w'.ownsRow w.heap.size 56 1 (.slice (some ⟨gm, 0, none⟩) F.ths.length F.ths.length) F.ths.length vs ∧
      (∀ j (hj : j < F.ths.length), ∃ u, vs[j]? = some u ∧ Lns B w u F.ths[j]) ∧ Below w.heap.size w w' := by
  obtain ⟨vi, vt, vc, rfl, hm⟩ := hv
  obtain ⟨⟨P0, d0, rfl, -⟩, ⟨P1, d1, rfl, l1, l2, l3⟩, ⟨P2, d2, rfl, -⟩⟩ := hm
  unfold maxLen at l2
  obtain ⟨ii, hii, hiz, his, hib⟩ := info_parts info_lrow
  obtain ⟨w1, hw1⟩ : ∃ W, W = w.alloc (.cells #[.string ⟨F.name.toArray⟩, .slice P0 F.init.length d0, .slice P1 F.ths.length d1, .bool F.all, .slice P2 F.cond.length d2] 30) := ⟨_, rfl⟩
  have hb1 : Below w.heap.size w w1 := by rw [hw1]; exact below_al (Below.refl _ w) _
  have HBX := Lib.hid (show FlBox w1 w.heap.size ⟨F.name.toArray⟩ (.slice P0 F.init.length d0) (.slice P1 F.ths.length d1) (.slice P2 F.cond.length d2) F.all from by rw [hw1]; exact FlBox.at rfl _ _ _ _ _ _)
  obtain ⟨w2, hmk, hown2, hgr2⟩ := run_makeSlice_full (P := Try.prog) (w := w1) w1.heap.size 72 56 ii (.slice none 0 0) 1 Try.underlying72 hii hiz his .i64 .i64 F.ths.length (by omega) (by rw [hib]; omega) (by unfold maxLen; omega) (Nat.le_refl _)
  rw [made_rows] at hown2
  have hB2 : Below w1.heap.size w1 w2 := ⟨hgr2.os, hgr2.tape, hgr2.output, hgr2.size, fun k hk => hgr2.block k hk (by simp)⟩
  obtain ⟨gm, hgm⟩ : ∃ g, g = w1.heap.size := ⟨_, rfl⟩
  rw [← hgm] at hmk
  have HO2 := Lib.hid (show w2.ownsRow w1.heap.size 56 1 (.slice (some ⟨gm, 0, none⟩) F.ths.length F.ths.length) F.ths.length (List.replicate F.ths.length (.slice none 0 0)) from by rw [hgm]; exact hown2)
  clear hgm
  have hws : w.heap.size < w1.heap.size := by rw [hw1]; simp
  have HBS := Lib.hid hb1
  have HB2 := Lib.hid hB2
  rw [hw1] at hmk
  obtain ⟨y0, y1, y2, y3, y4⟩ := HBX.out
  rw [hw1] at y0 y1 y2 y3 y4
  clear hw1 hown2 hgr2
  unfold flv
  go_enter Try.func36, Try.ntmps36
  have k0 := kc hB2 HBX.out.1
  have k1 := kc hB2 HBX.out.2.1
  have k2 := kc hB2 HBX.out.2.2.1
  have k3 := kc hB2 HBX.out.2.2.2.1
  have k4 := kc hB2 HBX.out.2.2.2.2
  go_wp2
  go_loopw [13] (fun i wr => ∃ (j : Nat) (vs : List Value), j ≤ F.ths.length ∧ i = .int .i64 j ∧ wr.ownsRow w1.heap.size 56 1 (.slice (some ⟨gm, 0, none⟩) F.ths.length F.ths.length) F.ths.length vs ∧ (∀ q (hq : q < F.ths.length), q < j → ∃ u, vs[q]? = some u ∧ Lns B w u F.ths[q]) ∧ Below w1.heap.size w1 wr) (fun i _ => F.ths.length - (intOf i).toNat)
  case atStart => exact ⟨0, _, Nat.zero_le _, rfl, HO2.out, fun q hq h => absurd h (Nat.not_lt_zero q), HB2.out⟩
  case round =>
    obtain ⟨j, vs, hj, rfl, hown, hall, hB⟩ := hrel
    by_cases hlt : j < F.ths.length
    · obtain ⟨b1, f1, rfl, hb1', hcl⟩ := l3 (by omega)
      obtain ⟨vv, hvv, hlns⟩ := hcl j hlt
      have hvv' := kc hB (kc HBS.out hvv)
      have HL := Lib.hid hlns
      obtain ⟨A1, c1, rfl, hd1, hd2, -⟩ := hlns
      have hjv : j < vs.length := by rw [hown.1]; omega
      have hsz := hB.size
      have hlt1 := hown.lt gm rfl
      have HA := Lib.hid hall
      have HOw := Lib.hid hown
      have hbA := below_al (Below.refl wr.heap.size wr) (.cells #[.slice A1 F.ths[j].length c1] 58)
      have ho1 := own_below hown hbA
      have c9 := ho1.cellAt j (by omega)
      rw [List.getElem?_eq_getElem hjv] at c9
      have f9 := ho1.frozenAt j
      have HO1 := Lib.hid ho1
      have hB3 := Lib.hid ((hB.setCell (p := ⟨gm, j, none⟩) hlt1.1 (.slice A1 F.ths[j].length c1)).alloc (by simp; omega) (.cells #[.slice A1 F.ths[j].length c1] 58))
      clear hall hcl hvv hown
      go_wp2
      go_roundw
      case rel =>
        refine ⟨j + 1, vs.set j (.slice A1 F.ths[j].length c1), by omega, by go_num, (HOw.out.stored j _).1.alloc _, fun q hq hqj => ?_, hB3.out⟩
        by_cases e : q = j
        · subst e; exact ⟨_, by rw [List.getElem?_set_self hjv], HL.out⟩
        · rw [List.getElem?_set_ne (Ne.symm e)]
          exact HA.out q hq (by omega)
      case measure => simp [intOf]; omega
    · obtain rfl : F.ths.length = j := by omega
      go_wp2
      go_ret
      exact ⟨gm, vs, rfl, own_base hown HBS.out.size, fun q hq => hall q hq hq, HBS.out.trans (hB.mono HBS.out.size)⟩
end Go.Proofs.Ytaelfjphgdlbcaa
namespace Go.Proofs.Ytaelfjphgdlbcaa.SlM
open CodM (St Pg hasS)
open OpsM (Ln)
open VM (Fl)
set_option linter.unusedVariables false
set_option linter.unusedSimpArgs false

/-- A slot's number, a thread, a place. -/
structure Sp where
  n : Nat
  t : Nat
  k : Nat
section
variable {A : Type} (p : A → Bool)
def plK (ths : List (List A)) (i : Nat) : Nat → List Sp
  | 0 => []
  | k + 1 => plK ths i k ++ (if isS p ths i k then [⟨sl p ths i k, i, k⟩] else [])
def plA (ths : List (List A)) : Nat → List Sp
  | 0 => []
  | i + 1 => plA ths i ++ plK p ths i (ths.getD i []).length
/-- All ahead of place k of thread i. -/
def plP (ths : List (List A)) (i k : Nat) : List Sp := plA p ths i ++ plK p ths i k
def pls (ths : List (List A)) : List Sp := plA p ths ths.length
theorem plP_zero (ths : List (List A)) (i : Nat) : plP p ths i 0 = plA p ths i := by unfold plP; simp [plK]
theorem plP_next (ths : List (List A)) (i k : Nat) : plP p ths i (k + 1) = plP p ths i k ++ (if isS p ths i k then [⟨sl p ths i k, i, k⟩] else []) := by
  unfold plP; rw [plK, List.append_assoc]
theorem plP_end (ths : List (List A)) {i : Nat} (hi : i < ths.length) : plP p ths i ths[i].length = plA p ths (i + 1) := by unfold plP; rw [plA, getD_at hi]
theorem plK_len (ths : List (List A)) {i : Nat} (hi : i < ths.length) : ∀ k, k ≤ ths[i].length → (plK p ths i k).length = pc p (ths[i].take k)
  | 0, _ => by simp [plK, pc]
  | k + 1, h => by
    rw [plK, List.length_append, plK_len ths hi k (by omega), pc_take p _ k (by omega), isS_at p ths hi (by omega)]
    split <;> rfl
theorem plA_len (ths : List (List A)) : ∀ i, i ≤ ths.length → (plA p ths i).length = ahd p ths i
  | 0, _ => rfl
  | i + 1, h => by
    rw [plA, List.length_append, plA_len ths i (by omega), getD_at (show i < ths.length by omega), plK_len p ths (show i < ths.length by omega) _ (Nat.le_refl _), List.take_length, ahd_next p ths i (by omega)]
theorem plP_len (ths : List (List A)) {i k : Nat} (hi : i < ths.length) (hk : k ≤ ths[i].length) : (plP p ths i k).length = sl p ths i k := by
  unfold plP sl
  rw [List.length_append, plA_len p ths i (by omega), plK_len p ths hi k hk, getD_at hi]
theorem pls_len (ths : List (List A)) : (pls p ths).length = many p ths := plA_len p ths _ (Nat.le_refl _)
theorem plA_pre (ths : List (List A)) {i : Nat} : ∀ {j}, i ≤ j → plA p ths i <+: plA p ths j
  | 0, h => by obtain rfl : i = 0 := by omega
               exact List.prefix_refl _
  | j + 1, h => by
    by_cases e : i = j + 1
    · subst e; exact List.prefix_refl _
    · exact (plA_pre ths (show i ≤ j by omega)).trans ⟨_, rfl⟩
theorem plK_pre (ths : List (List A)) (t : Nat) {i : Nat} : ∀ {j}, i ≤ j → plK p ths t i <+: plK p ths t j
  | 0, h => by obtain rfl : i = 0 := by omega
               exact List.prefix_refl _
  | j + 1, h => by
    by_cases e : i = j + 1
    · subst e; exact List.prefix_refl _
    · exact (plK_pre ths t (show i ≤ j by omega)).trans ⟨_, rfl⟩
theorem plP_pre (ths : List (List A)) {i k : Nat} (hi : i < ths.length) (hk : k ≤ ths[i].length) : plP p ths i k <+: pls p ths := by
  refine List.IsPrefix.trans ?_ (plA_pre p ths (show i + 1 ≤ ths.length by omega))
  rw [← plP_end p ths hi]
  unfold plP
  exact (List.prefix_append_right_inj _).2 (plK_pre p ths i hk)
theorem mem_plK (ths : List (List A)) (i : Nat) (x : Sp) : ∀ k, x ∈ plK p ths i k ↔ ∃ j, j < k ∧ isS p ths i j = true ∧ x = ⟨sl p ths i j, i, j⟩
  | 0 => by simp [plK]
  | k + 1 => by
    rw [plK, List.mem_append, mem_plK ths i x k]
    constructor
    · rintro (⟨j, h1, h2, h3⟩ | h)
      · exact ⟨j, by omega, h2, h3⟩
      · cases c : isS p ths i k
        · rw [c] at h; cases h
        · rw [c] at h; simp at h; exact ⟨k, by omega, c, h⟩
    · rintro ⟨j, h1, h2, h3⟩
      by_cases e : j = k
      · subst e; right; rw [h2]; simp [h3]
      · exact .inl ⟨j, by omega, h2, h3⟩
theorem mem_plA (ths : List (List A)) (x : Sp) : ∀ i, x ∈ plA p ths i ↔ ∃ t k, t < i ∧ k < (ths.getD t []).length ∧ isS p ths t k = true ∧ x = ⟨sl p ths t k, t, k⟩
  | 0 => by simp [plA]
  | i + 1 => by
    rw [plA, List.mem_append, mem_plA ths x i, mem_plK]
    constructor
    · rintro (⟨t, k, h1, h2⟩ | ⟨j, h1, h2⟩)
      · exact ⟨t, k, by omega, h2⟩
      · exact ⟨i, j, by omega, h1, h2⟩
    · rintro ⟨t, k, h1, h2, h3⟩
      by_cases e : t = i
      · subst e; exact .inr ⟨k, h2, h3⟩
      · exact .inl ⟨t, k, by omega, h2, h3⟩
theorem mem_pls (ths : List (List A)) (x : Sp) : x ∈ pls p ths ↔ ∃ t k, t < ths.length ∧ k < (ths.getD t []).length ∧ isS p ths t k = true ∧ x = ⟨sl p ths t k, t, k⟩ := mem_plA p ths x _
/-- Which places are chosen among these. -/
def chP (g : List Int) (pre : List Sp) (t k : Nat) : Bool := pre.any fun x => (decide (x.t = t) && decide (x.k = k)) && has g (x.n : Nat)
theorem chP_snoc (g : List Int) (pre : List Sp) (x : Sp) (t k : Nat) : chP g (pre ++ [x]) t k = (chP g pre t k || ((decide (x.t = t) && decide (x.k = k)) && has g (x.n : Nat))) := by
  unfold chP; rw [List.any_append]; simp
theorem chP_end (g : List Int) (ths : List (List A)) {t k : Nat} (ht : t < ths.length) (hk : k < ths[t].length) : chP g (pls p ths) t k = ch p ths g t k := by
  rw [Bool.eq_iff_iff]
  unfold chP ch
  rw [List.any_eq_true]
  constructor
  · rintro ⟨x, hx, h⟩
    obtain ⟨u, j, h1, h2, h3, rfl⟩ := (mem_pls p ths x).1 hx
    simp only [Bool.and_eq_true, decide_eq_true_eq] at h
    obtain ⟨⟨rfl, rfl⟩, h4⟩ := h
    rw [h3, h4]; rfl
  · intro h
    rw [Bool.and_eq_true] at h
    refine ⟨⟨sl p ths t k, t, k⟩, (mem_pls p ths _).2 ⟨t, k, ht, by rw [getD_at ht]; exact hk, h.1, rfl⟩, ?_⟩
    simp [h.2]
end
/-- What is next, is it behind a fence, what is laid. -/
structure Ld where
  next : Nat
  beh : Bool
  f : List (Nat × Nat)
def ldS (g : List Int) (s : Ld) (x : Sp) : Ld := if has g (s.next : Nat) && !s.beh then ⟨s.next, true, s.f ++ [(x.t, x.k)]⟩ else ⟨s.next + 1, false, s.f⟩
def ldP (g : List Int) (pre : List Sp) : Ld := pre.foldl (ldS g) ⟨0, false, []⟩
theorem ldP_snoc (g : List Int) (pre : List Sp) (x : Sp) : ldP g (pre ++ [x]) = ldS g (ldP g pre) x := by unfold ldP; rw [List.foldl_append]; rfl
theorem ldS_le (g : List Int) (s : Ld) (x : Sp) : (ldS g s x).next ≤ s.next + 1 := by unfold ldS; split <;> simp
theorem ldF_le (g : List Int) : ∀ (pre : List Sp) (s : Ld), (pre.foldl (ldS g) s).next ≤ s.next + pre.length
  | [], s => Nat.le_refl _
  | x :: r, s => by
    rw [List.foldl_cons]
    have h1 := ldF_le g r (ldS g s x)
    have h2 := ldS_le g s x
    rw [List.length_cons]; omega
theorem ldP_le (g : List Int) (pre : List Sp) : (ldP g pre).next ≤ pre.length := by have := ldF_le g pre ⟨0, false, []⟩; simpa [ldP] using this
section
variable {A : Type} (p : A → Bool)
/-- What is known ahead of a place. -/
def LdAt (g : List Int) (ths : List (List A)) (s : Ld) (n : Nat) (b : Bool) (i k : Nat) : Prop :=
  s.next = n ∧ s.beh = b ∧ ∀ t (ht : t < ths.length) j, j < ths[t].length → ((t, j) ∈ s.f ↔ ahead t j i k = true ∧ lc p g ths t j = true)
theorem LdAt.next {g : List Int} {ths : List (List A)} {s : Ld} {i k : Nat} (hi : i < ths.length) (hk : k < ths[i].length) (h : LdAt p g ths s (eK p g ths i k).1 (eK p g ths i k).2.1 i k) :
    LdAt p g ths ((if isS p ths i k then [⟨sl p ths i k, i, k⟩] else []).foldl (ldS g) s) (eK p g ths i (k + 1)).1 (eK p g ths i (k + 1)).2.1 i (k + 1) := by
  obtain ⟨h1, h2, h3⟩ := h
  rw [eK_next p g ths hi hk]
  have hs := isS_at p ths hi hk
  have hlc : lc p g ths i k = (isS p ths i k && (has g s.next && !s.beh)) := by unfold lc; rw [← h1, ← h2]
  have hah : ∀ t j, ahead t j i (k + 1) = (ahead t j i k || (decide (t = i) && decide (j = k))) := fun t j => ahead_next t j i k
  have hno : ahead i k i k = false := by unfold ahead; simp
  unfold eS
  rw [← hs]
  cases c : isS p ths i k
  · rw [c] at hlc
    simp only [Bool.false_eq_true, if_false, List.foldl_nil]
    refine ⟨h1, h2, fun t ht j hj => ?_⟩
    rw [h3 t ht j hj, hah]
    by_cases e : t = i ∧ j = k
    · obtain ⟨rfl, rfl⟩ := e
      rw [hlc]; simp
    · have : (decide (t = i) && decide (j = k)) = false := by simpa using e
      rw [this, Bool.or_false]
  · rw [c] at hlc
    simp only [if_true, List.foldl_cons, List.foldl_nil]
    rw [← h1, ← h2]
    unfold ldS
    cases q : (has g (s.next : Nat) && !s.beh)
    · rw [q] at hlc
      simp only [Bool.false_eq_true, if_false]
      refine ⟨rfl, rfl, fun t ht j hj => ?_⟩
      rw [h3 t ht j hj, hah]
      by_cases e : t = i ∧ j = k
      · obtain ⟨rfl, rfl⟩ := e
        rw [hlc]; simp
      · have : (decide (t = i) && decide (j = k)) = false := by simpa using e
        rw [this, Bool.or_false]
    · rw [q] at hlc
      simp only [if_true]
      refine ⟨rfl, rfl, fun t ht j hj => ?_⟩
      rw [List.mem_append, h3 t ht j hj, hah, List.mem_singleton, Prod.mk.injEq, Bool.or_eq_true, Bool.and_eq_true, decide_eq_true_eq, decide_eq_true_eq]
      constructor
      · rintro (⟨a, b⟩ | ⟨rfl, rfl⟩)
        · exact ⟨.inl a, b⟩
        · exact ⟨.inr ⟨rfl, rfl⟩, hlc⟩
      · rintro ⟨a | a, b⟩
        · exact .inl ⟨a, b⟩
        · exact .inr a
theorem ldA (g : List Int) (ths : List (List A)) : ∀ i, i ≤ ths.length → LdAt p g ths (ldP g (plA p ths i)) (eA p g ths i).1 (eA p g ths i).2 i 0 := by
  have key : ∀ i (hi : i < ths.length), LdAt p g ths (ldP g (plA p ths i)) (eA p g ths i).1 (eA p g ths i).2 i 0 → ∀ k, k ≤ ths[i].length → LdAt p g ths (ldP g (plP p ths i k)) (eK p g ths i k).1 (eK p g ths i k).2.1 i k := by
    intro i hi h0 k
    induction k with
    | zero => intro _; rw [plP_zero, eK_zero]; exact h0
    | succ k ih =>
      intro hk
      rw [plP_next]
      have := (ih (by omega)).next p hi (by omega)
      unfold ldP at this ⊢
      rw [List.foldl_append]; exact this
  intro i
  induction i with
  | zero =>
    intro _
    refine ⟨rfl, rfl, fun t ht j hj => ?_⟩
    show (t, j) ∈ [] ↔ _
    unfold ahead; simp
  | succ i ih =>
    intro h
    have hi : i < ths.length := by omega
    have := key i hi (ih (by omega)) _ (Nat.le_refl _)
    rw [plP_end p ths hi] at this
    rw [eK_end p g ths hi]
    obtain ⟨h1, h2, h3⟩ := this
    refine ⟨h1, h2, fun t ht j hj => ?_⟩
    rw [h3 t ht j hj]
    have : ahead t j i ths[i].length = ahead t j (i + 1) 0 := by
      unfold ahead
      rw [Bool.eq_iff_iff]
      simp only [Bool.or_eq_true, Bool.and_eq_true, decide_eq_true_eq]
      constructor
      · rintro (a | ⟨a, b⟩)
        · left; omega
        · left; omega
      · rintro (a | ⟨a, b⟩)
        · by_cases e : t = i
          · subst e; exact .inr ⟨rfl, hj⟩
          · left; omega
        · omega
    rw [this]
theorem ld_end (g : List Int) (ths : List (List A)) {t k : Nat} (ht : t < ths.length) (hk : k < ths[t].length) : decide ((t, k) ∈ (ldP g (pls p ths)).f) = lc p g ths t k := by
  have h := (ldA p g ths ths.length (Nat.le_refl _)).2.2 t ht k hk
  rw [Bool.eq_iff_iff, decide_eq_true_eq]
  unfold pls
  rw [h]
  unfold ahead
  simp [ht]
end
end Go.Proofs.Ytaelfjphgdlbcaa.SlM
