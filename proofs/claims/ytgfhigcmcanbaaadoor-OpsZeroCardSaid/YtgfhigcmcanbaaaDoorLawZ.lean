/-
  OpsZero, as a walk over any world that holds the registers: it returns true.
-/
import Derived.Test.YtgfhigcmcanbaaaDoorLawL
import Derived.Test.YtgfhigcmcanbaaaDoorLawZ0
import Derived.Test.YtgfhigcmcanbaaaDoorLawZ1
import Derived.Test.YtgfhigcmcanbaaaDoorLawZ2
namespace Go.Proofs.YtgfhigcmcanbaaaDoor
open Go.RowKit
set_option linter.unusedVariables false
open WordM (L)

set_option maxHeartbeats 8000000 in
set_option maxRecDepth 100000 in
theorem zerolaw_any (op n n2 op2 : Int) (r o b s : ByteArray) (w : World) (hr : Regs w) :
    Calls Tryd.prog 7 #[lnv op r o b n, .string s, .int .i64 n2, .int .i64 op2] w fun e w' => e = .returned (.bool true) ∧ Below w.heap.size w w' := by

  cases hgl : (decide (1000 < r.size) || (decide (1000 < o.size) || decide (1000 < b.size)))
  · by_cases hs1 : s.size ≤ 1000
    · by_cases hs : s.data.toList = []
      · skip
        have HR := Lib.hid hr
        have HH := Lib.hid (fun W h => head_any W h)
        have HL := Lib.hid (fun W => greatline_any op n r o b W)
        have HRl := Lib.hid (fun W h => right_any op n r o b W h)
        have hB := Below.refl w.heap.size w
        clear hr
        rw [hgl] at HL
        clear hgl
        have q1 : decide ((1000 : Int) < (s.size : Int)) = false := decide_eq_false (by omega)
        have q2 : s.toList = [] := by rw [Lib.toList_data]; exact hs
        clear hs hs1
        unfold lnv at *
        go_enter Tryd.func7, Tryd.ntmps7
        go_wp2_with fail
        refine (HH.out _ (HR.out.below (below_al hB _))).mono ?_
        rintro e wk1 ⟨rfl, hb⟩
        have Hl := Lib.hid ((LnBox.at (g := w.heap.size) (by first | rfl | simp) op n r o b 23).below hb)
        replace hB := chain (below_al hB _) hb
        obtain ⟨l0, l1, l2, l3, l4⟩ := Hl.out
        have zl := lt_of_cell l0
        go_wp2_with fail
        refine (HL.out _).mono ?_
        rintro e wk2 ⟨rfl, hb⟩
        clear zl l0 l1 l2 l3 l4
        replace Hl := Lib.hid (Hl.out.below hb)
        replace hB := chain hB hb
        obtain ⟨l0, l1, l2, l3, l4⟩ := Hl.out
        have zl := lt_of_cell l0
        go_wp2
        go_ret
        exact ⟨rfl, hB⟩
      · by_cases hn2 : n2 = 0
        · skip
          have HR := Lib.hid hr
          have HH := Lib.hid (fun W h => head_any W h)
          have HL := Lib.hid (fun W => greatline_any op n r o b W)
          have HRl := Lib.hid (fun W h => right_any op n r o b W h)
          have hB := Below.refl w.heap.size w
          clear hr
          rw [hgl] at HL
          clear hgl
          have q1 : decide ((1000 : Int) < (s.size : Int)) = false := decide_eq_false (by omega)
          have q2 : ¬ s.toList = [] := by rw [Lib.toList_data]; exact hs
          have q3 : (s.toList == []) = false := by simpa using q2
          have q4 : s.toList.isEmpty = false := by simpa using q2
          have q5 : (n2 == 0) = true := by rw [hn2]; rfl
          clear hs hs1 hn2
          unfold lnv at *
          go_enter Tryd.func7, Tryd.ntmps7
          go_wp2_with fail
          refine (HH.out _ (HR.out.below (below_al hB _))).mono ?_
          rintro e wk1 ⟨rfl, hb⟩
          have Hl := Lib.hid ((LnBox.at (g := w.heap.size) (by first | rfl | simp) op n r o b 23).below hb)
          replace hB := chain (below_al hB _) hb
          obtain ⟨l0, l1, l2, l3, l4⟩ := Hl.out
          have zl := lt_of_cell l0
          go_wp2_with fail
          refine (HL.out _).mono ?_
          rintro e wk2 ⟨rfl, hb⟩
          clear zl l0 l1 l2 l3 l4
          replace Hl := Lib.hid (Hl.out.below hb)
          replace hB := chain hB hb
          obtain ⟨l0, l1, l2, l3, l4⟩ := Hl.out
          have zl := lt_of_cell l0
          go_wp2
          go_ret
          exact ⟨rfl, hB⟩
        · cases hrl : OpsM.right op r.data.toList o.data.toList b.data.toList n
          · skip
            have HR := Lib.hid hr
            have HH := Lib.hid (fun W h => head_any W h)
            have HL := Lib.hid (fun W => greatline_any op n r o b W)
            have HRl := Lib.hid (fun W h => right_any op n r o b W h)
            have hB := Below.refl w.heap.size w
            clear hr
            rw [hgl] at HL
            clear hgl
            have q1 : decide ((1000 : Int) < (s.size : Int)) = false := decide_eq_false (by omega)
            have q2 : ¬ s.toList = [] := by rw [Lib.toList_data]; exact hs
            have q3 : (s.toList == []) = false := by simpa using q2
            have q4 : s.toList.isEmpty = false := by simpa using q2
            have q5 : (n2 == 0) = false := beq_eq_false_iff_ne.2 hn2
            rw [hrl] at HRl
            clear hs hs1 hn2 hrl
            unfold lnv at *
            go_enter Tryd.func7, Tryd.ntmps7
            go_wp2_with fail
            refine (HH.out _ (HR.out.below (below_al hB _))).mono ?_
            rintro e wk1 ⟨rfl, hb⟩
            have Hl := Lib.hid ((LnBox.at (g := w.heap.size) (by first | rfl | simp) op n r o b 23).below hb)
            replace hB := chain (below_al hB _) hb
            obtain ⟨l0, l1, l2, l3, l4⟩ := Hl.out
            have zl := lt_of_cell l0
            go_wp2_with fail
            refine (HL.out _).mono ?_
            rintro e wk2 ⟨rfl, hb⟩
            clear zl l0 l1 l2 l3 l4
            replace Hl := Lib.hid (Hl.out.below hb)
            replace hB := chain hB hb
            obtain ⟨l0, l1, l2, l3, l4⟩ := Hl.out
            have zl := lt_of_cell l0
            go_wp2_with fail
            refine (HRl.out _ (HR.out.below hB)).mono ?_
            rintro e wk3 ⟨rfl, hb⟩
            clear zl l0 l1 l2 l3 l4
            replace Hl := Lib.hid (Hl.out.below hb)
            replace hB := chain hB hb
            obtain ⟨l0, l1, l2, l3, l4⟩ := Hl.out
            have zl := lt_of_cell l0
            go_wp2
            go_ret
            exact ⟨rfl, hB⟩
          · by_cases h1 : 1 ≤ op2
            · by_cases h2 : op2 ≤ 11
              · exact zero_in op n n2 op2 r o b s w hr h1 h2 hgl hs1 hs hn2 hrl
              · exact zero_hi op n n2 op2 r o b s w hr (by omega) hgl hs1 hs hn2 hrl
            · exact zero_lo op n n2 op2 r o b s w hr (by omega) hgl hs1 hs hn2 hrl
    · skip
      have HR := Lib.hid hr
      have HH := Lib.hid (fun W h => head_any W h)
      have HL := Lib.hid (fun W => greatline_any op n r o b W)
      have HRl := Lib.hid (fun W h => right_any op n r o b W h)
      have hB := Below.refl w.heap.size w
      clear hr
      rw [hgl] at HL
      clear hgl
      have q1 : decide ((1000 : Int) < (s.size : Int)) = true := decide_eq_true (by omega)
      clear hs1
      unfold lnv at *
      go_enter Tryd.func7, Tryd.ntmps7
      go_wp2_with fail
      refine (HH.out _ (HR.out.below (below_al hB _))).mono ?_
      rintro e wk1 ⟨rfl, hb⟩
      have Hl := Lib.hid ((LnBox.at (g := w.heap.size) (by first | rfl | simp) op n r o b 23).below hb)
      replace hB := chain (below_al hB _) hb
      obtain ⟨l0, l1, l2, l3, l4⟩ := Hl.out
      have zl := lt_of_cell l0
      go_wp2_with fail
      refine (HL.out _).mono ?_
      rintro e wk2 ⟨rfl, hb⟩
      clear zl l0 l1 l2 l3 l4
      replace Hl := Lib.hid (Hl.out.below hb)
      replace hB := chain hB hb
      obtain ⟨l0, l1, l2, l3, l4⟩ := Hl.out
      have zl := lt_of_cell l0
      go_wp2
      go_ret
      exact ⟨rfl, hB⟩
  · skip
    have HR := Lib.hid hr
    have HH := Lib.hid (fun W h => head_any W h)
    have HL := Lib.hid (fun W => greatline_any op n r o b W)
    have HRl := Lib.hid (fun W h => right_any op n r o b W h)
    have hB := Below.refl w.heap.size w
    clear hr
    rw [hgl] at HL
    clear hgl
    unfold lnv at *
    go_enter Tryd.func7, Tryd.ntmps7
    go_wp2_with fail
    refine (HH.out _ (HR.out.below (below_al hB _))).mono ?_
    rintro e wk1 ⟨rfl, hb⟩
    have Hl := Lib.hid ((LnBox.at (g := w.heap.size) (by first | rfl | simp) op n r o b 23).below hb)
    replace hB := chain (below_al hB _) hb
    obtain ⟨l0, l1, l2, l3, l4⟩ := Hl.out
    have zl := lt_of_cell l0
    go_wp2_with fail
    refine (HL.out _).mono ?_
    rintro e wk2 ⟨rfl, hb⟩
    clear zl l0 l1 l2 l3 l4
    replace Hl := Lib.hid (Hl.out.below hb)
    replace hB := chain hB hb
    obtain ⟨l0, l1, l2, l3, l4⟩ := Hl.out
    have zl := lt_of_cell l0
    go_wp2
    go_ret
    exact ⟨rfl, hB⟩
end Go.Proofs.YtgfhigcmcanbaaaDoor
