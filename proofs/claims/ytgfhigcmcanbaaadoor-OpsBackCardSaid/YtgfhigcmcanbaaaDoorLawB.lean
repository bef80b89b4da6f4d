/-
  OpsBack, as a walk over any world that holds the registers: it returns true.
-/
import Derived.Test.YtgfhigcmcanbaaaDoorLawL
namespace Go.Proofs.YtgfhigcmcanbaaaDoor
open Go.RowKit
set_option linter.unusedVariables false
set_option linter.unusedSimpArgs false
open WordM (L)

set_option maxHeartbeats 4000000 in
set_option maxRecDepth 100000 in
theorem back_any {B : Nat} {v : Value} {ls : List L} (op n : Int) (r o b : ByteArray) (w : World) (hr : Regs w) (hn : NumM.inR n) (h : Strs B w v ls) (hBB : B ≤ w.heap.size) :
    Calls Tryd.prog 4 #[lnv op r o b n, v] w fun e w' => e = .returned (.bool true) ∧ Below w.heap.size w w' := by
  have HR := Lib.hid hr
  have HS := Lib.hid (strs_more h hBB)
  have HH := Lib.hid (fun W h => head_any W h)
  have HL := Lib.hid (fun W => greatline_any op n r o b W)
  have HG := Lib.hid (fun W (h : Strs W.heap.size W v ls) => great_any W h)
  have hB := Below.refl w.heap.size w
  clear hr h
  cases hgl : (decide (1000 < r.size) || (decide (1000 < o.size) || decide (1000 < b.size)))
  · have hsz := great_line_no hgl
    rw [hgl] at HL
    clear hgl
    cases hgw : greatB ls
    · have hgs := greatB_no hgw
      rw [hgw] at HG
      clear hgw
      have z := hsz
      rw [Lib.size_eq, Lib.size_eq, Lib.size_eq] at z
      have HW := Lib.hid (fun W h => lwords_any op n r o b W h hn (by omega) (by omega))
      have HRi := Lib.hid (fun W h => right_any op n r o b W h)
      have hsm := OpsM.words_small (op := op) hn z.1 z.2.1 z.2.2
      have hp := words_pos op n r.data.toList o.data.toList b.data.toList
      have hgo := get_own op n r.data.toList o.data.toList b.data.toList hn
      have hl3 := OpsM.words_len_any op r.data.toList o.data.toList b.data.toList n
      have hpr := OpsM.get_spec ls
      have hra := OpsM.made_range ls
      have hml := OpsM.made_len ls 100000 (fun l hl => Nat.le_trans (hgs.2 l hl) (by omega))
      have HG0 := fun W (hr : Regs W) (h : Strs W.heap.size W v ls) => opget_any W hr h (Nat.le_refl _) (fun l hl => Nat.le_trans (hgs.2 l hl) (by omega))
      generalize OpsM.words op r.data.toList o.data.toList b.data.toList n = ws at *
      generalize OpsM.right op r.data.toList o.data.toList b.data.toList n = rb at *
      have HG1 := fun W u (hr : Regs W) (h : Strs W.heap.size W u ws) => opget_any W hr h (Nat.le_refl _) (fun l hl => Nat.le_trans (hsm l hl) (by omega))
      rw [hgo] at HG1
      generalize OpsM.get ls = g2 at *
      generalize OpsM.made ls = y at *
      have HRy := fun W h => rightw_any y W h
      have HWy := fun W h => wordsw_any y W h hra hml.1 hml.2
      have HP := Lib.hid hp
      clear hgo hsm hgs hsz z hra hml hp
      unfold lnw lnv at *

      cases rb
      · skip
        have HG1' := Lib.hid HG1
        clear HG1
        rcases hpr with ⟨hy1, hy2, rfl⟩ | ⟨rfl, _⟩
        · skip
          rw [hy1] at HRy
          rw [hy2] at HWy
          have HRy' := Lib.hid HRy
          have HWy' := Lib.hid HWy
          clear HRy HWy hy1 hy2
          have HG0' := Lib.hid HG0
          clear HG0
          go_enter Tryd.func4, Tryd.ntmps4
          go_wp2_with fail
          refine (HH.out _ (HR.out.below (below_al hB _))).mono ?_
          rintro e wk1 ⟨rfl, hb⟩
          have Hl := Lib.hid ((LnBox.at (g := w.heap.size) (by simp) op n r o b 23).below hb)
          replace hB := chain (below_al hB _) hb
          obtain ⟨l0, l1, l2, l3, l4⟩ := Hl.out
          have zl := lt_of_cell l0
          go_wp2_with fail
          refine (HL.out _).mono ?_
          rintro e wk2 ⟨rfl, hb⟩
          clear zl l0 l1 l2 l3 l4
          replace Hl := Lib.hid (Hl.out.below hb)
          replace hB := chain hB hb
          obtain ⟨l0, l1, l2, l3, l4⟩ := Hl.out
          have zl := lt_of_cell l0
          go_wp2_with fail
          refine (HG.out _ (strs_up HS.out (Nat.le_refl _) hB)).mono ?_
          rintro e wq ⟨rfl, rfl⟩
          go_wp2_with fail
          refine (HW.out _ (HR.out.below hB)).mono ?_
          rintro e wk3 ⟨u1, rfl, how, hb⟩
          clear zl l0 l1 l2 l3 l4
          replace Hl := Lib.hid (Hl.out.below hb)
          replace hB := chain hB hb
          obtain ⟨l0, l1, l2, l3, l4⟩ := Hl.out
          have zl := lt_of_cell l0
          have S1v := strs_own how
          have S1w := S1v
          obtain ⟨A1, c1, rfl, _, _, _⟩ := S1w
          have S1 := Lib.hid S1v
          clear how S1v
          go_wp2_with fail
          refine (HG1'.out _ _ (HR.out.below hB) S1.out).mono ?_
          rintro e wk4 ⟨rfl, hb⟩
          clear zl l0 l1 l2 l3 l4
          replace Hl := Lib.hid (Hl.out.below hb)
          replace hB := chain hB hb
          obtain ⟨l0, l1, l2, l3, l4⟩ := Hl.out
          have zl := lt_of_cell l0
          clear S1
          go_wp2_with fail
          refine (HRi.out _ (HR.out.below (below_al hB _))).mono ?_
          rintro e wk5 ⟨rfl, hb⟩
          clear zl l0 l1 l2 l3 l4
          replace Hl := Lib.hid ((Hl.out.alloc _).below hb)
          have Hx := Lib.hid ((LnBox.at (g := wk4.heap.size) (by simp) 0 0 ⟨#[]⟩ ⟨#[]⟩ ⟨#[]⟩ 23).below hb)
          replace hB := chain (below_al hB _) hb
          obtain ⟨l0, l1, l2, l3, l4⟩ := Hl.out
          have zl := lt_of_cell l0
          obtain ⟨x0, x1, x2, x3, x4⟩ := Hx.out
          have zx := lt_of_cell x0
          have hp := HP.out
          have hpN : decide (0 < ws.length) = false := by rw [← hp]; congr 1; exact propext (by omega)
          go_wp2_with fail
          refine (HG0'.out _ (HR.out.below hB) (strs_up HS.out (Nat.le_refl _) hB)).mono ?_
          rintro e wk6 ⟨rfl, hb⟩
          clear zl l0 l1 l2 l3 l4
          clear zx x0 x1 x2 x3 x4
          replace Hl := Lib.hid (Hl.out.below hb)
          replace Hx := Lib.hid (Hx.out.below hb)
          replace hB := chain hB hb
          obtain ⟨l0, l1, l2, l3, l4⟩ := Hl.out
          have zl := lt_of_cell l0
          obtain ⟨x0, x1, x2, x3, x4⟩ := Hx.out
          have zx := lt_of_cell x0
          go_wp2_with fail
          refine (HRy'.out _ (HR.out.below (below_al hB _))).mono ?_
          rintro e wk7 ⟨rfl, hb⟩
          clear zl l0 l1 l2 l3 l4
          clear zx x0 x1 x2 x3 x4
          replace Hl := Lib.hid ((Hl.out.alloc _).below hb)
          replace Hx := Lib.hid ((Hx.out.alloc _).below hb)
          have Hy := Lib.hid ((LnBox.at (g := wk6.heap.size) (by simp) y.op y.n ⟨y.reg.toArray⟩ ⟨y.loc.toArray⟩ ⟨y.label.toArray⟩ 23).below hb)
          replace hB := chain (below_al hB _) hb
          obtain ⟨l0, l1, l2, l3, l4⟩ := Hl.out
          have zl := lt_of_cell l0
          obtain ⟨x0, x1, x2, x3, x4⟩ := Hx.out
          have zx := lt_of_cell x0
          obtain ⟨y0, y1, y2, y3, y4⟩ := Hy.out
          have zy := lt_of_cell y0
          go_wp2_with fail
          refine (HWy'.out _ (HR.out.below hB)).mono ?_
          rintro e wk8 ⟨u2, rfl, how, hb⟩
          clear zl l0 l1 l2 l3 l4
          clear zx x0 x1 x2 x3 x4
          clear zy y0 y1 y2 y3 y4
          replace Hl := Lib.hid (Hl.out.below hb)
          replace Hx := Lib.hid (Hx.out.below hb)
          replace Hy := Lib.hid (Hy.out.below hb)
          replace hB := chain hB hb
          obtain ⟨l0, l1, l2, l3, l4⟩ := Hl.out
          have zl := lt_of_cell l0
          obtain ⟨x0, x1, x2, x3, x4⟩ := Hx.out
          have zx := lt_of_cell x0
          obtain ⟨y0, y1, y2, y3, y4⟩ := Hy.out
          have zy := lt_of_cell y0
          have S2 := Lib.hid (strs_own how)
          clear how
          go_wp2_with fail
          refine (same_below _ S2.out (strs_up HS.out (Nat.le_refl _) hB)).mono ?_
          rintro e wk9 ⟨rfl, hb⟩
          clear zl l0 l1 l2 l3 l4
          clear zx x0 x1 x2 x3 x4
          clear zy y0 y1 y2 y3 y4
          replace Hl := Lib.hid (Hl.out.below hb)
          replace Hx := Lib.hid (Hx.out.below hb)
          replace Hy := Lib.hid (Hy.out.below hb)
          replace hB := chain hB hb
          obtain ⟨l0, l1, l2, l3, l4⟩ := Hl.out
          have zl := lt_of_cell l0
          obtain ⟨x0, x1, x2, x3, x4⟩ := Hx.out
          have zx := lt_of_cell x0
          obtain ⟨y0, y1, y2, y3, y4⟩ := Hy.out
          have zy := lt_of_cell y0
          have hq : sameB ls ls = true := decide_eq_true rfl
          go_wp2
          go_ret
          exact ⟨rfl, hB⟩
        · skip
          clear HRy HWy
          have HG0' := Lib.hid HG0
          clear HG0
          go_enter Tryd.func4, Tryd.ntmps4
          go_wp2_with fail
          refine (HH.out _ (HR.out.below (below_al hB _))).mono ?_
          rintro e wk1 ⟨rfl, hb⟩
          have Hl := Lib.hid ((LnBox.at (g := w.heap.size) (by simp) op n r o b 23).below hb)
          replace hB := chain (below_al hB _) hb
          obtain ⟨l0, l1, l2, l3, l4⟩ := Hl.out
          have zl := lt_of_cell l0
          go_wp2_with fail
          refine (HL.out _).mono ?_
          rintro e wk2 ⟨rfl, hb⟩
          clear zl l0 l1 l2 l3 l4
          replace Hl := Lib.hid (Hl.out.below hb)
          replace hB := chain hB hb
          obtain ⟨l0, l1, l2, l3, l4⟩ := Hl.out
          have zl := lt_of_cell l0
          go_wp2_with fail
          refine (HG.out _ (strs_up HS.out (Nat.le_refl _) hB)).mono ?_
          rintro e wq ⟨rfl, rfl⟩
          go_wp2_with fail
          refine (HW.out _ (HR.out.below hB)).mono ?_
          rintro e wk3 ⟨u1, rfl, how, hb⟩
          clear zl l0 l1 l2 l3 l4
          replace Hl := Lib.hid (Hl.out.below hb)
          replace hB := chain hB hb
          obtain ⟨l0, l1, l2, l3, l4⟩ := Hl.out
          have zl := lt_of_cell l0
          have S1v := strs_own how
          have S1w := S1v
          obtain ⟨A1, c1, rfl, _, _, _⟩ := S1w
          have S1 := Lib.hid S1v
          clear how S1v
          go_wp2_with fail
          refine (HG1'.out _ _ (HR.out.below hB) S1.out).mono ?_
          rintro e wk4 ⟨rfl, hb⟩
          clear zl l0 l1 l2 l3 l4
          replace Hl := Lib.hid (Hl.out.below hb)
          replace hB := chain hB hb
          obtain ⟨l0, l1, l2, l3, l4⟩ := Hl.out
          have zl := lt_of_cell l0
          clear S1
          go_wp2_with fail
          refine (HRi.out _ (HR.out.below (below_al hB _))).mono ?_
          rintro e wk5 ⟨rfl, hb⟩
          clear zl l0 l1 l2 l3 l4
          replace Hl := Lib.hid ((Hl.out.alloc _).below hb)
          have Hx := Lib.hid ((LnBox.at (g := wk4.heap.size) (by simp) 0 0 ⟨#[]⟩ ⟨#[]⟩ ⟨#[]⟩ 23).below hb)
          replace hB := chain (below_al hB _) hb
          obtain ⟨l0, l1, l2, l3, l4⟩ := Hl.out
          have zl := lt_of_cell l0
          obtain ⟨x0, x1, x2, x3, x4⟩ := Hx.out
          have zx := lt_of_cell x0
          have hp := HP.out
          have hpN : decide (0 < ws.length) = false := by rw [← hp]; congr 1; exact propext (by omega)
          go_wp2_with fail
          refine (HG0'.out _ (HR.out.below hB) (strs_up HS.out (Nat.le_refl _) hB)).mono ?_
          rintro e wk6 ⟨rfl, hb⟩
          clear zl l0 l1 l2 l3 l4
          clear zx x0 x1 x2 x3 x4
          replace Hl := Lib.hid (Hl.out.below hb)
          replace Hx := Lib.hid (Hx.out.below hb)
          replace hB := chain hB hb
          obtain ⟨l0, l1, l2, l3, l4⟩ := Hl.out
          have zl := lt_of_cell l0
          obtain ⟨x0, x1, x2, x3, x4⟩ := Hx.out
          have zx := lt_of_cell x0
          go_wp2
          go_ret
          exact ⟨rfl, below_al hB _⟩
      · skip
        have HG1' := Lib.hid HG1
        clear HG1
        rcases hpr with ⟨hy1, hy2, rfl⟩ | ⟨rfl, _⟩
        · skip
          rw [hy1] at HRy
          rw [hy2] at HWy
          have HRy' := Lib.hid HRy
          have HWy' := Lib.hid HWy
          clear HRy HWy hy1 hy2
          have HG0' := Lib.hid HG0
          clear HG0
          go_enter Tryd.func4, Tryd.ntmps4
          go_wp2_with fail
          refine (HH.out _ (HR.out.below (below_al hB _))).mono ?_
          rintro e wk1 ⟨rfl, hb⟩
          have Hl := Lib.hid ((LnBox.at (g := w.heap.size) (by simp) op n r o b 23).below hb)
          replace hB := chain (below_al hB _) hb
          obtain ⟨l0, l1, l2, l3, l4⟩ := Hl.out
          have zl := lt_of_cell l0
          go_wp2_with fail
          refine (HL.out _).mono ?_
          rintro e wk2 ⟨rfl, hb⟩
          clear zl l0 l1 l2 l3 l4
          replace Hl := Lib.hid (Hl.out.below hb)
          replace hB := chain hB hb
          obtain ⟨l0, l1, l2, l3, l4⟩ := Hl.out
          have zl := lt_of_cell l0
          go_wp2_with fail
          refine (HG.out _ (strs_up HS.out (Nat.le_refl _) hB)).mono ?_
          rintro e wq ⟨rfl, rfl⟩
          go_wp2_with fail
          refine (HW.out _ (HR.out.below hB)).mono ?_
          rintro e wk3 ⟨u1, rfl, how, hb⟩
          clear zl l0 l1 l2 l3 l4
          replace Hl := Lib.hid (Hl.out.below hb)
          replace hB := chain hB hb
          obtain ⟨l0, l1, l2, l3, l4⟩ := Hl.out
          have zl := lt_of_cell l0
          have S1v := strs_own how
          have S1w := S1v
          obtain ⟨A1, c1, rfl, _, _, _⟩ := S1w
          have S1 := Lib.hid S1v
          clear how S1v
          go_wp2_with fail
          refine (HG1'.out _ _ (HR.out.below hB) S1.out).mono ?_
          rintro e wk4 ⟨rfl, hb⟩
          clear zl l0 l1 l2 l3 l4
          replace Hl := Lib.hid (Hl.out.below hb)
          replace hB := chain hB hb
          obtain ⟨l0, l1, l2, l3, l4⟩ := Hl.out
          have zl := lt_of_cell l0
          clear S1
          go_wp2_with fail
          refine (HRi.out _ (HR.out.below (below_al hB _))).mono ?_
          rintro e wk5 ⟨rfl, hb⟩
          clear zl l0 l1 l2 l3 l4
          replace Hl := Lib.hid ((Hl.out.alloc _).below hb)
          have Hx := Lib.hid ((LnBox.at (g := wk4.heap.size) (by simp) op n r o b 23).below hb)
          replace hB := chain (below_al hB _) hb
          obtain ⟨l0, l1, l2, l3, l4⟩ := Hl.out
          have zl := lt_of_cell l0
          obtain ⟨x0, x1, x2, x3, x4⟩ := Hx.out
          have zx := lt_of_cell x0
          have hp := HP.out
          have hpN : decide (0 < ws.length) = true := by rw [← hp]; congr 1; exact propext (by omega)
          go_wp2_with fail
          refine (HG0'.out _ (HR.out.below hB) (strs_up HS.out (Nat.le_refl _) hB)).mono ?_
          rintro e wk6 ⟨rfl, hb⟩
          clear zl l0 l1 l2 l3 l4
          clear zx x0 x1 x2 x3 x4
          replace Hl := Lib.hid (Hl.out.below hb)
          replace Hx := Lib.hid (Hx.out.below hb)
          replace hB := chain hB hb
          obtain ⟨l0, l1, l2, l3, l4⟩ := Hl.out
          have zl := lt_of_cell l0
          obtain ⟨x0, x1, x2, x3, x4⟩ := Hx.out
          have zx := lt_of_cell x0
          go_wp2_with fail
          refine (HRy'.out _ (HR.out.below (below_al hB _))).mono ?_
          rintro e wk7 ⟨rfl, hb⟩
          clear zl l0 l1 l2 l3 l4
          clear zx x0 x1 x2 x3 x4
          replace Hl := Lib.hid ((Hl.out.alloc _).below hb)
          replace Hx := Lib.hid ((Hx.out.alloc _).below hb)
          have Hy := Lib.hid ((LnBox.at (g := wk6.heap.size) (by simp) y.op y.n ⟨y.reg.toArray⟩ ⟨y.loc.toArray⟩ ⟨y.label.toArray⟩ 23).below hb)
          replace hB := chain (below_al hB _) hb
          obtain ⟨l0, l1, l2, l3, l4⟩ := Hl.out
          have zl := lt_of_cell l0
          obtain ⟨x0, x1, x2, x3, x4⟩ := Hx.out
          have zx := lt_of_cell x0
          obtain ⟨y0, y1, y2, y3, y4⟩ := Hy.out
          have zy := lt_of_cell y0
          go_wp2_with fail
          refine (HWy'.out _ (HR.out.below hB)).mono ?_
          rintro e wk8 ⟨u2, rfl, how, hb⟩
          clear zl l0 l1 l2 l3 l4
          clear zx x0 x1 x2 x3 x4
          clear zy y0 y1 y2 y3 y4
          replace Hl := Lib.hid (Hl.out.below hb)
          replace Hx := Lib.hid (Hx.out.below hb)
          replace Hy := Lib.hid (Hy.out.below hb)
          replace hB := chain hB hb
          obtain ⟨l0, l1, l2, l3, l4⟩ := Hl.out
          have zl := lt_of_cell l0
          obtain ⟨x0, x1, x2, x3, x4⟩ := Hx.out
          have zx := lt_of_cell x0
          obtain ⟨y0, y1, y2, y3, y4⟩ := Hy.out
          have zy := lt_of_cell y0
          have S2 := Lib.hid (strs_own how)
          clear how
          go_wp2_with fail
          refine (same_below _ S2.out (strs_up HS.out (Nat.le_refl _) hB)).mono ?_
          rintro e wk9 ⟨rfl, hb⟩
          clear zl l0 l1 l2 l3 l4
          clear zx x0 x1 x2 x3 x4
          clear zy y0 y1 y2 y3 y4
          replace Hl := Lib.hid (Hl.out.below hb)
          replace Hx := Lib.hid (Hx.out.below hb)
          replace Hy := Lib.hid (Hy.out.below hb)
          replace hB := chain hB hb
          obtain ⟨l0, l1, l2, l3, l4⟩ := Hl.out
          have zl := lt_of_cell l0
          obtain ⟨x0, x1, x2, x3, x4⟩ := Hx.out
          have zx := lt_of_cell x0
          obtain ⟨y0, y1, y2, y3, y4⟩ := Hy.out
          have zy := lt_of_cell y0
          have hq : sameB ls ls = true := decide_eq_true rfl
          go_wp2
          go_ret
          exact ⟨rfl, hB⟩
        · skip
          clear HRy HWy
          have HG0' := Lib.hid HG0
          clear HG0
          go_enter Tryd.func4, Tryd.ntmps4
          go_wp2_with fail
          refine (HH.out _ (HR.out.below (below_al hB _))).mono ?_
          rintro e wk1 ⟨rfl, hb⟩
          have Hl := Lib.hid ((LnBox.at (g := w.heap.size) (by simp) op n r o b 23).below hb)
          replace hB := chain (below_al hB _) hb
          obtain ⟨l0, l1, l2, l3, l4⟩ := Hl.out
          have zl := lt_of_cell l0
          go_wp2_with fail
          refine (HL.out _).mono ?_
          rintro e wk2 ⟨rfl, hb⟩
          clear zl l0 l1 l2 l3 l4
          replace Hl := Lib.hid (Hl.out.below hb)
          replace hB := chain hB hb
          obtain ⟨l0, l1, l2, l3, l4⟩ := Hl.out
          have zl := lt_of_cell l0
          go_wp2_with fail
          refine (HG.out _ (strs_up HS.out (Nat.le_refl _) hB)).mono ?_
          rintro e wq ⟨rfl, rfl⟩
          go_wp2_with fail
          refine (HW.out _ (HR.out.below hB)).mono ?_
          rintro e wk3 ⟨u1, rfl, how, hb⟩
          clear zl l0 l1 l2 l3 l4
          replace Hl := Lib.hid (Hl.out.below hb)
          replace hB := chain hB hb
          obtain ⟨l0, l1, l2, l3, l4⟩ := Hl.out
          have zl := lt_of_cell l0
          have S1v := strs_own how
          have S1w := S1v
          obtain ⟨A1, c1, rfl, _, _, _⟩ := S1w
          have S1 := Lib.hid S1v
          clear how S1v
          go_wp2_with fail
          refine (HG1'.out _ _ (HR.out.below hB) S1.out).mono ?_
          rintro e wk4 ⟨rfl, hb⟩
          clear zl l0 l1 l2 l3 l4
          replace Hl := Lib.hid (Hl.out.below hb)
          replace hB := chain hB hb
          obtain ⟨l0, l1, l2, l3, l4⟩ := Hl.out
          have zl := lt_of_cell l0
          clear S1
          go_wp2_with fail
          refine (HRi.out _ (HR.out.below (below_al hB _))).mono ?_
          rintro e wk5 ⟨rfl, hb⟩
          clear zl l0 l1 l2 l3 l4
          replace Hl := Lib.hid ((Hl.out.alloc _).below hb)
          have Hx := Lib.hid ((LnBox.at (g := wk4.heap.size) (by simp) op n r o b 23).below hb)
          replace hB := chain (below_al hB _) hb
          obtain ⟨l0, l1, l2, l3, l4⟩ := Hl.out
          have zl := lt_of_cell l0
          obtain ⟨x0, x1, x2, x3, x4⟩ := Hx.out
          have zx := lt_of_cell x0
          have hp := HP.out
          have hpN : decide (0 < ws.length) = true := by rw [← hp]; congr 1; exact propext (by omega)
          go_wp2_with fail
          refine (HG0'.out _ (HR.out.below hB) (strs_up HS.out (Nat.le_refl _) hB)).mono ?_
          rintro e wk6 ⟨rfl, hb⟩
          clear zl l0 l1 l2 l3 l4
          clear zx x0 x1 x2 x3 x4
          replace Hl := Lib.hid (Hl.out.below hb)
          replace Hx := Lib.hid (Hx.out.below hb)
          replace hB := chain hB hb
          obtain ⟨l0, l1, l2, l3, l4⟩ := Hl.out
          have zl := lt_of_cell l0
          obtain ⟨x0, x1, x2, x3, x4⟩ := Hx.out
          have zx := lt_of_cell x0
          go_wp2
          go_ret
          exact ⟨rfl, below_al hB _⟩
    · rw [hgw] at HG
      clear hgw hsz
      unfold lnv at *
      go_enter Tryd.func4, Tryd.ntmps4
      go_wp2_with fail
      refine (HH.out _ (HR.out.below (below_al hB _))).mono ?_
      rintro e wk1 ⟨rfl, hb⟩
      have Hl := Lib.hid ((LnBox.at (g := w.heap.size) (by simp) op n r o b 23).below hb)
      replace hB := chain (below_al hB _) hb
      obtain ⟨l0, l1, l2, l3, l4⟩ := Hl.out
      have zl := lt_of_cell l0
      go_wp2_with fail
      refine (HL.out _).mono ?_
      rintro e wk2 ⟨rfl, hb⟩
      clear zl l0 l1 l2 l3 l4
      replace Hl := Lib.hid (Hl.out.below hb)
      replace hB := chain hB hb
      obtain ⟨l0, l1, l2, l3, l4⟩ := Hl.out
      have zl := lt_of_cell l0
      go_wp2_with fail
      refine (HG.out _ (strs_up HS.out (Nat.le_refl _) hB)).mono ?_
      rintro e wq ⟨rfl, rfl⟩
      go_wp2
      go_ret
      exact ⟨rfl, hB⟩
  · rw [hgl] at HL
    clear hgl
    unfold lnv at *
    go_enter Tryd.func4, Tryd.ntmps4
    go_wp2_with fail
    refine (HH.out _ (HR.out.below (below_al hB _))).mono ?_
    rintro e wk1 ⟨rfl, hb⟩
    have Hl := Lib.hid ((LnBox.at (g := w.heap.size) (by simp) op n r o b 23).below hb)
    replace hB := chain (below_al hB _) hb
    obtain ⟨l0, l1, l2, l3, l4⟩ := Hl.out
    have zl := lt_of_cell l0
    go_wp2_with fail
    refine (HL.out _).mono ?_
    rintro e wk2 ⟨rfl, hb⟩
    clear zl l0 l1 l2 l3 l4
    replace Hl := Lib.hid (Hl.out.below hb)
    replace hB := chain hB hb
    obtain ⟨l0, l1, l2, l3, l4⟩ := Hl.out
    have zl := lt_of_cell l0
    go_wp2
    go_ret
    exact ⟨rfl, hB⟩
end Go.Proofs.YtgfhigcmcanbaaaDoor
