/-
  OpsTells at all inputs: the short ways, where something is too much, beside the main walk.
-/
import Derived.Test.YtlfngcekbffngaaDoorLawT
namespace Go.Proofs.YtlfngcekbffngaaDoor
open Go.RowKit
set_option linter.unusedVariables false
set_option linter.unusedSimpArgs false
open WordM (L)

set_option maxHeartbeats 4000000 in
set_option maxRecDepth 100000 in
theorem tells_s1 {B : Nat} {v : Value} {ls : List L} (op n t m : Int) (r o b nm s : ByteArray) (w : World) (hr : Regs w) (h : Strs B w v ls) (hBB : B ≤ w.heap.size)
    (hgl : (decide (1000 < r.size) || (decide (1000 < o.size) || decide (1000 < b.size))) = true) :
    Calls Tryd.prog 3 #[lnv op r o b n, v, atv t nm m, .string s] w fun e w' => e = .returned (.bool true) ∧ Below w.heap.size w w' := by
  have HR := Lib.hid hr
  have HS := Lib.hid (strs_more h hBB)
  have HH := Lib.hid (fun W h => head_any W h)
  have HL := fun W => greatline_any op n r o b W
  have HG := fun W (h : Strs W.heap.size W v ls) => great_any W h
  have hB := Below.refl w.heap.size w
  clear hr h
  rw [hgl] at HL
  unfold lnv at HL
  have HL' := Lib.hid HL
  clear HL hgl
  clear HG
  show Calls Tryd.prog 3 #[.agg #[.int .i64 op, .string r, .string o, .string b, .int .i64 n], v, .agg #[.int .i64 t, .string nm, .int .i64 m], .string s] w _
  go_enter Tryd.func3, Tryd.ntmps3
  go_wp2_with fail
  refine (HH.out _ (HR.out.below (below_al (below_al hB _) _))).mono ?_
  rintro e wk1 ⟨rfl, hb⟩
  have Hl := Lib.hid (((LnBox.at (g := w.heap.size) (by first | rfl | simp) op n r o b 23).alloc _).below hb)
  have Ha := Lib.hid ((AtBox.at (g := w.heap.size + 1) (by first | rfl | simp) t m nm 26).below hb)
  replace hB := chain (below_al (below_al hB _) _) hb
  obtain ⟨l0, l1, l2, l3, l4⟩ := Hl.out
  have zl := lt_of_cell l0
  obtain ⟨a0, a1, a2⟩ := Ha.out
  have za := lt_of_cell a0
  go_wp2_with fail
  refine (HL'.out _).mono ?_
  rintro e wk2 ⟨rfl, hb⟩
  clear zl l0 l1 l2 l3 l4
  clear za a0 a1 a2
  replace Hl := Lib.hid (Hl.out.below hb)
  replace Ha := Lib.hid (Ha.out.below hb)
  replace hB := chain hB hb
  obtain ⟨l0, l1, l2, l3, l4⟩ := Hl.out
  have zl := lt_of_cell l0
  obtain ⟨a0, a1, a2⟩ := Ha.out
  have za := lt_of_cell a0
  go_wp2
  go_ret
  exact ⟨rfl, hB⟩

set_option maxHeartbeats 4000000 in
set_option maxRecDepth 100000 in
theorem tells_s2 {B : Nat} {v : Value} {ls : List L} (op n t m : Int) (r o b nm s : ByteArray) (w : World) (hr : Regs w) (h : Strs B w v ls) (hBB : B ≤ w.heap.size)
    (hgl : (decide (1000 < r.size) || (decide (1000 < o.size) || decide (1000 < b.size))) = false) (hgw : greatB ls = true) :
    Calls Tryd.prog 3 #[lnv op r o b n, v, atv t nm m, .string s] w fun e w' => e = .returned (.bool true) ∧ Below w.heap.size w w' := by
  have HR := Lib.hid hr
  have HS := Lib.hid (strs_more h hBB)
  have HH := Lib.hid (fun W h => head_any W h)
  have HL := fun W => greatline_any op n r o b W
  have HG := fun W (h : Strs W.heap.size W v ls) => great_any W h
  have hB := Below.refl w.heap.size w
  clear hr h
  rw [hgl] at HL
  unfold lnv at HL
  have HL' := Lib.hid HL
  clear HL hgl
  rw [hgw] at HG
  have HG' := Lib.hid HG
  clear hgw HG
  show Calls Tryd.prog 3 #[.agg #[.int .i64 op, .string r, .string o, .string b, .int .i64 n], v, .agg #[.int .i64 t, .string nm, .int .i64 m], .string s] w _
  go_enter Tryd.func3, Tryd.ntmps3
  go_wp2_with fail
  refine (HH.out _ (HR.out.below (below_al (below_al hB _) _))).mono ?_
  rintro e wk1 ⟨rfl, hb⟩
  have Hl := Lib.hid (((LnBox.at (g := w.heap.size) (by first | rfl | simp) op n r o b 23).alloc _).below hb)
  have Ha := Lib.hid ((AtBox.at (g := w.heap.size + 1) (by first | rfl | simp) t m nm 26).below hb)
  replace hB := chain (below_al (below_al hB _) _) hb
  obtain ⟨l0, l1, l2, l3, l4⟩ := Hl.out
  have zl := lt_of_cell l0
  obtain ⟨a0, a1, a2⟩ := Ha.out
  have za := lt_of_cell a0
  go_wp2_with fail
  refine (HL'.out _).mono ?_
  rintro e wk2 ⟨rfl, hb⟩
  clear zl l0 l1 l2 l3 l4
  clear za a0 a1 a2
  replace Hl := Lib.hid (Hl.out.below hb)
  replace Ha := Lib.hid (Ha.out.below hb)
  replace hB := chain hB hb
  obtain ⟨l0, l1, l2, l3, l4⟩ := Hl.out
  have zl := lt_of_cell l0
  obtain ⟨a0, a1, a2⟩ := Ha.out
  have za := lt_of_cell a0
  go_wp2_with fail
  refine (HG'.out _ (strs_up HS.out (Nat.le_refl _) hB)).mono ?_
  rintro e wq ⟨rfl, rfl⟩
  go_wp2
  go_ret
  exact ⟨rfl, hB⟩

set_option maxHeartbeats 4000000 in
set_option maxRecDepth 100000 in
theorem tells_s3 {B : Nat} {v : Value} {ls : List L} (op n t m : Int) (r o b nm s : ByteArray) (w : World) (hr : Regs w) (h : Strs B w v ls) (hBB : B ≤ w.heap.size)
    (hgl : (decide (1000 < r.size) || (decide (1000 < o.size) || decide (1000 < b.size))) = false) (hgw : greatB ls = false) (hs1 : 1000 < nm.size) :
    Calls Tryd.prog 3 #[lnv op r o b n, v, atv t nm m, .string s] w fun e w' => e = .returned (.bool true) ∧ Below w.heap.size w w' := by
  have HR := Lib.hid hr
  have HS := Lib.hid (strs_more h hBB)
  have HH := Lib.hid (fun W h => head_any W h)
  have HL := fun W => greatline_any op n r o b W
  have HG := fun W (h : Strs W.heap.size W v ls) => great_any W h
  have hB := Below.refl w.heap.size w
  clear hr h
  rw [hgl] at HL
  unfold lnv at HL
  have HL' := Lib.hid HL
  clear HL hgl
  rw [hgw] at HG
  have HG' := Lib.hid HG
  clear hgw HG
  have q1 : decide ((1000 : Int) < (nm.size : Int)) = true := decide_eq_true (by omega)
  clear hs1
  show Calls Tryd.prog 3 #[.agg #[.int .i64 op, .string r, .string o, .string b, .int .i64 n], v, .agg #[.int .i64 t, .string nm, .int .i64 m], .string s] w _
  go_enter Tryd.func3, Tryd.ntmps3
  go_wp2_with fail
  refine (HH.out _ (HR.out.below (below_al (below_al hB _) _))).mono ?_
  rintro e wk1 ⟨rfl, hb⟩
  have Hl := Lib.hid (((LnBox.at (g := w.heap.size) (by first | rfl | simp) op n r o b 23).alloc _).below hb)
  have Ha := Lib.hid ((AtBox.at (g := w.heap.size + 1) (by first | rfl | simp) t m nm 26).below hb)
  replace hB := chain (below_al (below_al hB _) _) hb
  obtain ⟨l0, l1, l2, l3, l4⟩ := Hl.out
  have zl := lt_of_cell l0
  obtain ⟨a0, a1, a2⟩ := Ha.out
  have za := lt_of_cell a0
  go_wp2_with fail
  refine (HL'.out _).mono ?_
  rintro e wk2 ⟨rfl, hb⟩
  clear zl l0 l1 l2 l3 l4
  clear za a0 a1 a2
  replace Hl := Lib.hid (Hl.out.below hb)
  replace Ha := Lib.hid (Ha.out.below hb)
  replace hB := chain hB hb
  obtain ⟨l0, l1, l2, l3, l4⟩ := Hl.out
  have zl := lt_of_cell l0
  obtain ⟨a0, a1, a2⟩ := Ha.out
  have za := lt_of_cell a0
  go_wp2_with fail
  refine (HG'.out _ (strs_up HS.out (Nat.le_refl _) hB)).mono ?_
  rintro e wq ⟨rfl, rfl⟩
  go_wp2
  go_ret
  exact ⟨rfl, hB⟩

set_option maxHeartbeats 4000000 in
set_option maxRecDepth 100000 in
theorem tells_s4 {B : Nat} {v : Value} {ls : List L} (op n t m : Int) (r o b nm s : ByteArray) (w : World) (hr : Regs w) (h : Strs B w v ls) (hBB : B ≤ w.heap.size)
    (hgl : (decide (1000 < r.size) || (decide (1000 < o.size) || decide (1000 < b.size))) = false) (hgw : greatB ls = false) (hs1 : nm.size ≤ 1000) (hs2 : 1000 < s.size) :
    Calls Tryd.prog 3 #[lnv op r o b n, v, atv t nm m, .string s] w fun e w' => e = .returned (.bool true) ∧ Below w.heap.size w w' := by
  have HR := Lib.hid hr
  have HS := Lib.hid (strs_more h hBB)
  have HH := Lib.hid (fun W h => head_any W h)
  have HL := fun W => greatline_any op n r o b W
  have HG := fun W (h : Strs W.heap.size W v ls) => great_any W h
  have hB := Below.refl w.heap.size w
  clear hr h
  rw [hgl] at HL
  unfold lnv at HL
  have HL' := Lib.hid HL
  clear HL hgl
  rw [hgw] at HG
  have HG' := Lib.hid HG
  clear hgw HG
  have q1 : decide ((1000 : Int) < (nm.size : Int)) = false := decide_eq_false (by omega)
  clear hs1
  have q2 : decide ((1000 : Int) < (s.size : Int)) = true := decide_eq_true (by omega)
  clear hs2
  show Calls Tryd.prog 3 #[.agg #[.int .i64 op, .string r, .string o, .string b, .int .i64 n], v, .agg #[.int .i64 t, .string nm, .int .i64 m], .string s] w _
  go_enter Tryd.func3, Tryd.ntmps3
  go_wp2_with fail
  refine (HH.out _ (HR.out.below (below_al (below_al hB _) _))).mono ?_
  rintro e wk1 ⟨rfl, hb⟩
  have Hl := Lib.hid (((LnBox.at (g := w.heap.size) (by first | rfl | simp) op n r o b 23).alloc _).below hb)
  have Ha := Lib.hid ((AtBox.at (g := w.heap.size + 1) (by first | rfl | simp) t m nm 26).below hb)
  replace hB := chain (below_al (below_al hB _) _) hb
  obtain ⟨l0, l1, l2, l3, l4⟩ := Hl.out
  have zl := lt_of_cell l0
  obtain ⟨a0, a1, a2⟩ := Ha.out
  have za := lt_of_cell a0
  go_wp2_with fail
  refine (HL'.out _).mono ?_
  rintro e wk2 ⟨rfl, hb⟩
  clear zl l0 l1 l2 l3 l4
  clear za a0 a1 a2
  replace Hl := Lib.hid (Hl.out.below hb)
  replace Ha := Lib.hid (Ha.out.below hb)
  replace hB := chain hB hb
  obtain ⟨l0, l1, l2, l3, l4⟩ := Hl.out
  have zl := lt_of_cell l0
  obtain ⟨a0, a1, a2⟩ := Ha.out
  have za := lt_of_cell a0
  go_wp2_with fail
  refine (HG'.out _ (strs_up HS.out (Nat.le_refl _) hB)).mono ?_
  rintro e wq ⟨rfl, rfl⟩
  go_wp2
  go_ret
  exact ⟨rfl, hB⟩

theorem tells_any {B : Nat} {v : Value} {ls : List L} (op n t m : Int) (r o b nm s : ByteArray) (w : World) (hr : Regs w) (hn : NumM.inR n) (hm : NumM.inR m) (h : Strs B w v ls) (hBB : B ≤ w.heap.size) :
    Calls Tryd.prog 3 #[lnv op r o b n, v, atv t nm m, .string s] w fun e w' => e = .returned (.bool true) ∧ Below w.heap.size w w' := by
  cases hgl : (decide (1000 < r.size) || (decide (1000 < o.size) || decide (1000 < b.size)))
  · cases hgw : greatB ls
    · by_cases hs1 : nm.size ≤ 1000
      · by_cases hs2 : s.size ≤ 1000
        · exact tells_main op n t m r o b nm s w hr hn hm h hBB hgl hgw hs1 hs2
        · exact tells_s4 op n t m r o b nm s w hr h hBB hgl hgw hs1 (by omega)
      · exact tells_s3 op n t m r o b nm s w hr h hBB hgl hgw (by omega)
    · exact tells_s2 op n t m r o b nm s w hr h hBB hgl hgw
  · exact tells_s1 op n t m r o b nm s w hr h hBB hgl
end Go.Proofs.YtlfngcekbffngaaDoor
