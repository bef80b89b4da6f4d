/-
  OpsWords at all inputs: the short ways, where something is too much or the line is not right, beside the main walk.
-/
import Derived.Test.YtlfngcekbffngaaDoorLawW
namespace Go.Proofs.YtlfngcekbffngaaDoor
open Go.RowKit
set_option linter.unusedVariables false
set_option linter.unusedSimpArgs false
open WordM (L)

set_option maxHeartbeats 4000000 in
set_option maxRecDepth 100000 in
theorem owords_s1 (op n : Int) (r o b s : ByteArray) (w : World) (hr : Regs w)
    (hgl : (decide (1000 < r.size) || (decide (1000 < o.size) || decide (1000 < b.size))) = true) :
    Calls Tryd.prog 8 #[lnv op r o b n, .string s] w fun e w' => e = .returned (.bool true) ∧ Below w.heap.size w w' := by
  have HR := Lib.hid hr
  have HH := Lib.hid (fun W h => head_any W h)
  have HL := fun W => greatline_any op n r o b W
  have HR1 := fun W h => right_any op n r o b W h
  have hB := Below.refl w.heap.size w
  clear hr
  rw [hgl] at HL
  unfold lnv at HL HR1
  have HL' := Lib.hid HL
  clear HL hgl
  clear HR1
  show Calls Tryd.prog 8 #[.agg #[.int .i64 op, .string r, .string o, .string b, .int .i64 n], .string s] w _
  go_enter Tryd.func8, Tryd.ntmps8
  go_wp2_with fail
  refine (HH.out _ (HR.out.below (below_al hB _))).mono ?_
  rintro e wk1 ⟨rfl, hb⟩
  have Hl := Lib.hid ((LnBox.at (g := w.heap.size) (by first | rfl | simp) op n r o b 23).below hb)
  replace hB := chain (below_al hB _) hb
  obtain ⟨l0, l1, l2, l3, l4⟩ := Hl.out
  have zl := lt_of_cell l0
  go_wp2_with fail
  refine (HL'.out _).mono ?_
  rintro e wk2 ⟨rfl, hb⟩
  clear zl l0 l1 l2 l3 l4
  replace Hl := Lib.hid (Hl.out.below hb)
  replace hB := chain hB hb
  obtain ⟨l0, l1, l2, l3, l4⟩ := Hl.out
  have zl := lt_of_cell l0
  go_wp2
  go_ret
  exact ⟨rfl, hB⟩

set_option maxHeartbeats 4000000 in
set_option maxRecDepth 100000 in
theorem owords_s2 (op n : Int) (r o b s : ByteArray) (w : World) (hr : Regs w)
    (hgl : (decide (1000 < r.size) || (decide (1000 < o.size) || decide (1000 < b.size))) = false) (hs1 : 1000 < s.size) :
    Calls Tryd.prog 8 #[lnv op r o b n, .string s] w fun e w' => e = .returned (.bool true) ∧ Below w.heap.size w w' := by
  have HR := Lib.hid hr
  have HH := Lib.hid (fun W h => head_any W h)
  have HL := fun W => greatline_any op n r o b W
  have HR1 := fun W h => right_any op n r o b W h
  have hB := Below.refl w.heap.size w
  clear hr
  rw [hgl] at HL
  unfold lnv at HL HR1
  have HL' := Lib.hid HL
  clear HL hgl
  have q1 : decide ((1000 : Int) < (s.size : Int)) = true := decide_eq_true (by omega)
  clear hs1
  clear HR1
  show Calls Tryd.prog 8 #[.agg #[.int .i64 op, .string r, .string o, .string b, .int .i64 n], .string s] w _
  go_enter Tryd.func8, Tryd.ntmps8
  go_wp2_with fail
  refine (HH.out _ (HR.out.below (below_al hB _))).mono ?_
  rintro e wk1 ⟨rfl, hb⟩
  have Hl := Lib.hid ((LnBox.at (g := w.heap.size) (by first | rfl | simp) op n r o b 23).below hb)
  replace hB := chain (below_al hB _) hb
  obtain ⟨l0, l1, l2, l3, l4⟩ := Hl.out
  have zl := lt_of_cell l0
  go_wp2_with fail
  refine (HL'.out _).mono ?_
  rintro e wk2 ⟨rfl, hb⟩
  clear zl l0 l1 l2 l3 l4
  replace Hl := Lib.hid (Hl.out.below hb)
  replace hB := chain hB hb
  obtain ⟨l0, l1, l2, l3, l4⟩ := Hl.out
  have zl := lt_of_cell l0
  go_wp2
  go_ret
  exact ⟨rfl, hB⟩

set_option maxHeartbeats 4000000 in
set_option maxRecDepth 100000 in
theorem owords_s3 (op n : Int) (r o b s : ByteArray) (w : World) (hr : Regs w)
    (hgl : (decide (1000 < r.size) || (decide (1000 < o.size) || decide (1000 < b.size))) = false) (hs1 : s.size ≤ 1000) (hri : OpsM.right op r.data.toList o.data.toList b.data.toList n = false) :
    Calls Tryd.prog 8 #[lnv op r o b n, .string s] w fun e w' => e = .returned (.bool true) ∧ Below w.heap.size w w' := by
  have HR := Lib.hid hr
  have HH := Lib.hid (fun W h => head_any W h)
  have HL := fun W => greatline_any op n r o b W
  have HR1 := fun W h => right_any op n r o b W h
  have hB := Below.refl w.heap.size w
  clear hr
  rw [hgl] at HL
  unfold lnv at HL HR1
  have HL' := Lib.hid HL
  clear HL hgl
  have q1 : decide ((1000 : Int) < (s.size : Int)) = false := decide_eq_false (by omega)
  clear hs1
  rw [hri] at HR1
  have HR1' := Lib.hid HR1
  clear hri
  clear HR1
  show Calls Tryd.prog 8 #[.agg #[.int .i64 op, .string r, .string o, .string b, .int .i64 n], .string s] w _
  go_enter Tryd.func8, Tryd.ntmps8
  go_wp2_with fail
  refine (HH.out _ (HR.out.below (below_al hB _))).mono ?_
  rintro e wk1 ⟨rfl, hb⟩
  have Hl := Lib.hid ((LnBox.at (g := w.heap.size) (by first | rfl | simp) op n r o b 23).below hb)
  replace hB := chain (below_al hB _) hb
  obtain ⟨l0, l1, l2, l3, l4⟩ := Hl.out
  have zl := lt_of_cell l0
  go_wp2_with fail
  refine (HL'.out _).mono ?_
  rintro e wk2 ⟨rfl, hb⟩
  clear zl l0 l1 l2 l3 l4
  replace Hl := Lib.hid (Hl.out.below hb)
  replace hB := chain hB hb
  obtain ⟨l0, l1, l2, l3, l4⟩ := Hl.out
  have zl := lt_of_cell l0
  go_wp2_with fail
  refine (HR1'.out _ (HR.out.below hB)).mono ?_
  rintro e wk3 ⟨rfl, hb⟩
  clear zl l0 l1 l2 l3 l4
  replace hB := chain hB hb
  go_wp2
  go_ret
  exact ⟨rfl, hB⟩

theorem owords_any (op n : Int) (r o b s : ByteArray) (w : World) (hr : Regs w) (hn : NumM.inR n) :
    Calls Tryd.prog 8 #[lnv op r o b n, .string s] w fun e w' => e = .returned (.bool true) ∧ Below w.heap.size w w' := by
  cases hgl : (decide (1000 < r.size) || (decide (1000 < o.size) || decide (1000 < b.size)))
  · by_cases hs : s.size ≤ 1000
    · cases hri : OpsM.right op r.data.toList o.data.toList b.data.toList n
      · exact owords_s3 op n r o b s w hr hgl hs hri
      · exact owords_main op n r o b s w hr hn hgl hs hri
    · exact owords_s2 op n r o b s w hr hgl (by omega)
  · exact owords_s1 op n r o b s w hr hgl
end Go.Proofs.YtlfngcekbffngaaDoor
