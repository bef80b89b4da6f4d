/-
  OpsApart at all inputs: the short ways, where something is too much, beside the main walk.
-/
import Derived.Test.YtlfngcekbffngaaDoorLawPM
namespace Go.Proofs.YtlfngcekbffngaaDoor
open Go.RowKit
set_option linter.unusedVariables false
set_option linter.unusedSimpArgs false
open WordM (L)

set_option maxHeartbeats 4000000 in
set_option maxRecDepth 100000 in
theorem apart_s1 (op n op2 n2 t m t2 m2 : Int) (r o b r2 o2 b2 nm nm2 : ByteArray) (w : World) (hr : Regs w)
    (hg1 : (decide (1000 < r.size) || (decide (1000 < o.size) || decide (1000 < b.size))) = true) :
    Calls Tryd.prog 6 #[lnv op r o b n, lnv op2 r2 o2 b2 n2, atv t nm m, atv t2 nm2 m2] w fun e w' => e = .returned (.bool true) ∧ Below w.heap.size w w' := by
  have HR := Lib.hid hr
  have HH := Lib.hid (fun W h => head_any W h)
  have HL1 := fun W => greatline_any op n r o b W
  have HL2 := fun W => greatline_any op2 n2 r2 o2 b2 W
  have hB := Below.refl w.heap.size w
  clear hr
  rw [hg1] at HL1
  unfold lnv at HL1 HL2
  replace HL1 := Lib.hid HL1
  clear hg1
  clear HL2
  show Calls Tryd.prog 6 #[.agg #[.int .i64 op, .string r, .string o, .string b, .int .i64 n], .agg #[.int .i64 op2, .string r2, .string o2, .string b2, .int .i64 n2], .agg #[.int .i64 t, .string nm, .int .i64 m], .agg #[.int .i64 t2, .string nm2, .int .i64 m2]] w _
  go_enter Tryd.func6, Tryd.ntmps6
  go_wp2_with fail
  refine (HH.out _ (HR.out.below (below_al (below_al (below_al (below_al hB _) _) _) _))).mono ?_
  rintro e wk1 ⟨rfl, hb⟩
  have Hl := Lib.hid (((((LnBox.at (g := w.heap.size) (by first | rfl | simp) op n r o b 23).alloc _).alloc _).alloc _).below hb)
  have Hk := Lib.hid ((((LnBox.at (g := w.heap.size + 1) (by first | rfl | simp) op2 n2 r2 o2 b2 23).alloc _).alloc _).below hb)
  have Ha := Lib.hid (((AtBox.at (g := w.heap.size + 1 + 1) (by first | rfl | simp) t m nm 26).alloc _).below hb)
  have Hc := Lib.hid ((AtBox.at (g := w.heap.size + 1 + 1 + 1) (by first | rfl | simp) t2 m2 nm2 26).below hb)
  replace hB := chain (below_al (below_al (below_al (below_al hB _) _) _) _) hb
  obtain ⟨l0, l1, l2, l3, l4⟩ := Hl.out
  have zl := lt_of_cell l0
  obtain ⟨k0, k1, k2, k3, k4⟩ := Hk.out
  have zk := lt_of_cell k0
  obtain ⟨a0, a1, a2⟩ := Ha.out
  have za := lt_of_cell a0
  obtain ⟨c0, c1, c2⟩ := Hc.out
  have zc := lt_of_cell c0
  go_wp2_with fail
  refine (HL1.out _).mono ?_
  rintro e wk2 ⟨rfl, hb⟩
  clear zl l0 l1 l2 l3 l4
  clear zk k0 k1 k2 k3 k4
  clear za a0 a1 a2
  clear zc c0 c1 c2
  replace Hl := Lib.hid (Hl.out.below hb)
  replace Hk := Lib.hid (Hk.out.below hb)
  replace Ha := Lib.hid (Ha.out.below hb)
  replace Hc := Lib.hid (Hc.out.below hb)
  replace hB := chain hB hb
  obtain ⟨l0, l1, l2, l3, l4⟩ := Hl.out
  have zl := lt_of_cell l0
  obtain ⟨k0, k1, k2, k3, k4⟩ := Hk.out
  have zk := lt_of_cell k0
  obtain ⟨a0, a1, a2⟩ := Ha.out
  have za := lt_of_cell a0
  obtain ⟨c0, c1, c2⟩ := Hc.out
  have zc := lt_of_cell c0
  go_wp2
  go_ret
  exact ⟨rfl, hB⟩

set_option maxHeartbeats 4000000 in
set_option maxRecDepth 100000 in
theorem apart_s2 (op n op2 n2 t m t2 m2 : Int) (r o b r2 o2 b2 nm nm2 : ByteArray) (w : World) (hr : Regs w)
    (hg1 : (decide (1000 < r.size) || (decide (1000 < o.size) || decide (1000 < b.size))) = false) (hg2 : (decide (1000 < r2.size) || (decide (1000 < o2.size) || decide (1000 < b2.size))) = true) :
    Calls Tryd.prog 6 #[lnv op r o b n, lnv op2 r2 o2 b2 n2, atv t nm m, atv t2 nm2 m2] w fun e w' => e = .returned (.bool true) ∧ Below w.heap.size w w' := by
  have HR := Lib.hid hr
  have HH := Lib.hid (fun W h => head_any W h)
  have HL1 := fun W => greatline_any op n r o b W
  have HL2 := fun W => greatline_any op2 n2 r2 o2 b2 W
  have hB := Below.refl w.heap.size w
  clear hr
  rw [hg1] at HL1
  unfold lnv at HL1 HL2
  replace HL1 := Lib.hid HL1
  clear hg1
  rw [hg2] at HL2
  replace HL2 := Lib.hid HL2
  clear hg2
  show Calls Tryd.prog 6 #[.agg #[.int .i64 op, .string r, .string o, .string b, .int .i64 n], .agg #[.int .i64 op2, .string r2, .string o2, .string b2, .int .i64 n2], .agg #[.int .i64 t, .string nm, .int .i64 m], .agg #[.int .i64 t2, .string nm2, .int .i64 m2]] w _
  go_enter Tryd.func6, Tryd.ntmps6
  go_wp2_with fail
  refine (HH.out _ (HR.out.below (below_al (below_al (below_al (below_al hB _) _) _) _))).mono ?_
  rintro e wk1 ⟨rfl, hb⟩
  have Hl := Lib.hid (((((LnBox.at (g := w.heap.size) (by first | rfl | simp) op n r o b 23).alloc _).alloc _).alloc _).below hb)
  have Hk := Lib.hid ((((LnBox.at (g := w.heap.size + 1) (by first | rfl | simp) op2 n2 r2 o2 b2 23).alloc _).alloc _).below hb)
  have Ha := Lib.hid (((AtBox.at (g := w.heap.size + 1 + 1) (by first | rfl | simp) t m nm 26).alloc _).below hb)
  have Hc := Lib.hid ((AtBox.at (g := w.heap.size + 1 + 1 + 1) (by first | rfl | simp) t2 m2 nm2 26).below hb)
  replace hB := chain (below_al (below_al (below_al (below_al hB _) _) _) _) hb
  obtain ⟨l0, l1, l2, l3, l4⟩ := Hl.out
  have zl := lt_of_cell l0
  obtain ⟨k0, k1, k2, k3, k4⟩ := Hk.out
  have zk := lt_of_cell k0
  obtain ⟨a0, a1, a2⟩ := Ha.out
  have za := lt_of_cell a0
  obtain ⟨c0, c1, c2⟩ := Hc.out
  have zc := lt_of_cell c0
  go_wp2_with fail
  refine (HL1.out _).mono ?_
  rintro e wk2 ⟨rfl, hb⟩
  clear zl l0 l1 l2 l3 l4
  clear zk k0 k1 k2 k3 k4
  clear za a0 a1 a2
  clear zc c0 c1 c2
  replace Hl := Lib.hid (Hl.out.below hb)
  replace Hk := Lib.hid (Hk.out.below hb)
  replace Ha := Lib.hid (Ha.out.below hb)
  replace Hc := Lib.hid (Hc.out.below hb)
  replace hB := chain hB hb
  obtain ⟨l0, l1, l2, l3, l4⟩ := Hl.out
  have zl := lt_of_cell l0
  obtain ⟨k0, k1, k2, k3, k4⟩ := Hk.out
  have zk := lt_of_cell k0
  obtain ⟨a0, a1, a2⟩ := Ha.out
  have za := lt_of_cell a0
  obtain ⟨c0, c1, c2⟩ := Hc.out
  have zc := lt_of_cell c0
  go_wp2_with fail
  refine (HL2.out _).mono ?_
  rintro e wk3 ⟨rfl, hb⟩
  clear zl l0 l1 l2 l3 l4
  clear zk k0 k1 k2 k3 k4
  clear za a0 a1 a2
  clear zc c0 c1 c2
  replace Hl := Lib.hid (Hl.out.below hb)
  replace Hk := Lib.hid (Hk.out.below hb)
  replace Ha := Lib.hid (Ha.out.below hb)
  replace Hc := Lib.hid (Hc.out.below hb)
  replace hB := chain hB hb
  obtain ⟨l0, l1, l2, l3, l4⟩ := Hl.out
  have zl := lt_of_cell l0
  obtain ⟨k0, k1, k2, k3, k4⟩ := Hk.out
  have zk := lt_of_cell k0
  obtain ⟨a0, a1, a2⟩ := Ha.out
  have za := lt_of_cell a0
  obtain ⟨c0, c1, c2⟩ := Hc.out
  have zc := lt_of_cell c0
  go_wp2
  go_ret
  exact ⟨rfl, hB⟩

set_option maxHeartbeats 4000000 in
set_option maxRecDepth 100000 in
theorem apart_s3 (op n op2 n2 t m t2 m2 : Int) (r o b r2 o2 b2 nm nm2 : ByteArray) (w : World) (hr : Regs w)
    (hg1 : (decide (1000 < r.size) || (decide (1000 < o.size) || decide (1000 < b.size))) = false) (hg2 : (decide (1000 < r2.size) || (decide (1000 < o2.size) || decide (1000 < b2.size))) = false) (hs1 : 1000 < nm.size) :
    Calls Tryd.prog 6 #[lnv op r o b n, lnv op2 r2 o2 b2 n2, atv t nm m, atv t2 nm2 m2] w fun e w' => e = .returned (.bool true) ∧ Below w.heap.size w w' := by
  have HR := Lib.hid hr
  have HH := Lib.hid (fun W h => head_any W h)
  have HL1 := fun W => greatline_any op n r o b W
  have HL2 := fun W => greatline_any op2 n2 r2 o2 b2 W
  have hB := Below.refl w.heap.size w
  clear hr
  rw [hg1] at HL1
  unfold lnv at HL1 HL2
  replace HL1 := Lib.hid HL1
  clear hg1
  rw [hg2] at HL2
  replace HL2 := Lib.hid HL2
  clear hg2
  have q1 : decide ((1000 : Int) < (nm.size : Int)) = true := decide_eq_true (by omega)
  clear hs1
  show Calls Tryd.prog 6 #[.agg #[.int .i64 op, .string r, .string o, .string b, .int .i64 n], .agg #[.int .i64 op2, .string r2, .string o2, .string b2, .int .i64 n2], .agg #[.int .i64 t, .string nm, .int .i64 m], .agg #[.int .i64 t2, .string nm2, .int .i64 m2]] w _
  go_enter Tryd.func6, Tryd.ntmps6
  go_wp2_with fail
  refine (HH.out _ (HR.out.below (below_al (below_al (below_al (below_al hB _) _) _) _))).mono ?_
  rintro e wk1 ⟨rfl, hb⟩
  have Hl := Lib.hid (((((LnBox.at (g := w.heap.size) (by first | rfl | simp) op n r o b 23).alloc _).alloc _).alloc _).below hb)
  have Hk := Lib.hid ((((LnBox.at (g := w.heap.size + 1) (by first | rfl | simp) op2 n2 r2 o2 b2 23).alloc _).alloc _).below hb)
  have Ha := Lib.hid (((AtBox.at (g := w.heap.size + 1 + 1) (by first | rfl | simp) t m nm 26).alloc _).below hb)
  have Hc := Lib.hid ((AtBox.at (g := w.heap.size + 1 + 1 + 1) (by first | rfl | simp) t2 m2 nm2 26).below hb)
  replace hB := chain (below_al (below_al (below_al (below_al hB _) _) _) _) hb
  obtain ⟨l0, l1, l2, l3, l4⟩ := Hl.out
  have zl := lt_of_cell l0
  obtain ⟨k0, k1, k2, k3, k4⟩ := Hk.out
  have zk := lt_of_cell k0
  obtain ⟨a0, a1, a2⟩ := Ha.out
  have za := lt_of_cell a0
  obtain ⟨c0, c1, c2⟩ := Hc.out
  have zc := lt_of_cell c0
  go_wp2_with fail
  refine (HL1.out _).mono ?_
  rintro e wk2 ⟨rfl, hb⟩
  clear zl l0 l1 l2 l3 l4
  clear zk k0 k1 k2 k3 k4
  clear za a0 a1 a2
  clear zc c0 c1 c2
  replace Hl := Lib.hid (Hl.out.below hb)
  replace Hk := Lib.hid (Hk.out.below hb)
  replace Ha := Lib.hid (Ha.out.below hb)
  replace Hc := Lib.hid (Hc.out.below hb)
  replace hB := chain hB hb
  obtain ⟨l0, l1, l2, l3, l4⟩ := Hl.out
  have zl := lt_of_cell l0
  obtain ⟨k0, k1, k2, k3, k4⟩ := Hk.out
  have zk := lt_of_cell k0
  obtain ⟨a0, a1, a2⟩ := Ha.out
  have za := lt_of_cell a0
  obtain ⟨c0, c1, c2⟩ := Hc.out
  have zc := lt_of_cell c0
  go_wp2_with fail
  refine (HL2.out _).mono ?_
  rintro e wk3 ⟨rfl, hb⟩
  clear zl l0 l1 l2 l3 l4
  clear zk k0 k1 k2 k3 k4
  clear za a0 a1 a2
  clear zc c0 c1 c2
  replace Hl := Lib.hid (Hl.out.below hb)
  replace Hk := Lib.hid (Hk.out.below hb)
  replace Ha := Lib.hid (Ha.out.below hb)
  replace Hc := Lib.hid (Hc.out.below hb)
  replace hB := chain hB hb
  obtain ⟨l0, l1, l2, l3, l4⟩ := Hl.out
  have zl := lt_of_cell l0
  obtain ⟨k0, k1, k2, k3, k4⟩ := Hk.out
  have zk := lt_of_cell k0
  obtain ⟨a0, a1, a2⟩ := Ha.out
  have za := lt_of_cell a0
  obtain ⟨c0, c1, c2⟩ := Hc.out
  have zc := lt_of_cell c0
  go_wp2
  go_ret
  exact ⟨rfl, hB⟩

set_option maxHeartbeats 4000000 in
set_option maxRecDepth 100000 in
theorem apart_s4 (op n op2 n2 t m t2 m2 : Int) (r o b r2 o2 b2 nm nm2 : ByteArray) (w : World) (hr : Regs w)
    (hg1 : (decide (1000 < r.size) || (decide (1000 < o.size) || decide (1000 < b.size))) = false) (hg2 : (decide (1000 < r2.size) || (decide (1000 < o2.size) || decide (1000 < b2.size))) = false) (hs1 : nm.size ≤ 1000) (hs2 : 1000 < nm2.size) :
    Calls Tryd.prog 6 #[lnv op r o b n, lnv op2 r2 o2 b2 n2, atv t nm m, atv t2 nm2 m2] w fun e w' => e = .returned (.bool true) ∧ Below w.heap.size w w' := by
  have HR := Lib.hid hr
  have HH := Lib.hid (fun W h => head_any W h)
  have HL1 := fun W => greatline_any op n r o b W
  have HL2 := fun W => greatline_any op2 n2 r2 o2 b2 W
  have hB := Below.refl w.heap.size w
  clear hr
  rw [hg1] at HL1
  unfold lnv at HL1 HL2
  replace HL1 := Lib.hid HL1
  clear hg1
  rw [hg2] at HL2
  replace HL2 := Lib.hid HL2
  clear hg2
  have q1 : decide ((1000 : Int) < (nm.size : Int)) = false := decide_eq_false (by omega)
  clear hs1
  have q2 : decide ((1000 : Int) < (nm2.size : Int)) = true := decide_eq_true (by omega)
  clear hs2
  show Calls Tryd.prog 6 #[.agg #[.int .i64 op, .string r, .string o, .string b, .int .i64 n], .agg #[.int .i64 op2, .string r2, .string o2, .string b2, .int .i64 n2], .agg #[.int .i64 t, .string nm, .int .i64 m], .agg #[.int .i64 t2, .string nm2, .int .i64 m2]] w _
  go_enter Tryd.func6, Tryd.ntmps6
  go_wp2_with fail
  refine (HH.out _ (HR.out.below (below_al (below_al (below_al (below_al hB _) _) _) _))).mono ?_
  rintro e wk1 ⟨rfl, hb⟩
  have Hl := Lib.hid (((((LnBox.at (g := w.heap.size) (by first | rfl | simp) op n r o b 23).alloc _).alloc _).alloc _).below hb)
  have Hk := Lib.hid ((((LnBox.at (g := w.heap.size + 1) (by first | rfl | simp) op2 n2 r2 o2 b2 23).alloc _).alloc _).below hb)
  have Ha := Lib.hid (((AtBox.at (g := w.heap.size + 1 + 1) (by first | rfl | simp) t m nm 26).alloc _).below hb)
  have Hc := Lib.hid ((AtBox.at (g := w.heap.size + 1 + 1 + 1) (by first | rfl | simp) t2 m2 nm2 26).below hb)
  replace hB := chain (below_al (below_al (below_al (below_al hB _) _) _) _) hb
  obtain ⟨l0, l1, l2, l3, l4⟩ := Hl.out
  have zl := lt_of_cell l0
  obtain ⟨k0, k1, k2, k3, k4⟩ := Hk.out
  have zk := lt_of_cell k0
  obtain ⟨a0, a1, a2⟩ := Ha.out
  have za := lt_of_cell a0
  obtain ⟨c0, c1, c2⟩ := Hc.out
  have zc := lt_of_cell c0
  go_wp2_with fail
  refine (HL1.out _).mono ?_
  rintro e wk2 ⟨rfl, hb⟩
  clear zl l0 l1 l2 l3 l4
  clear zk k0 k1 k2 k3 k4
  clear za a0 a1 a2
  clear zc c0 c1 c2
  replace Hl := Lib.hid (Hl.out.below hb)
  replace Hk := Lib.hid (Hk.out.below hb)
  replace Ha := Lib.hid (Ha.out.below hb)
  replace Hc := Lib.hid (Hc.out.below hb)
  replace hB := chain hB hb
  obtain ⟨l0, l1, l2, l3, l4⟩ := Hl.out
  have zl := lt_of_cell l0
  obtain ⟨k0, k1, k2, k3, k4⟩ := Hk.out
  have zk := lt_of_cell k0
  obtain ⟨a0, a1, a2⟩ := Ha.out
  have za := lt_of_cell a0
  obtain ⟨c0, c1, c2⟩ := Hc.out
  have zc := lt_of_cell c0
  go_wp2_with fail
  refine (HL2.out _).mono ?_
  rintro e wk3 ⟨rfl, hb⟩
  clear zl l0 l1 l2 l3 l4
  clear zk k0 k1 k2 k3 k4
  clear za a0 a1 a2
  clear zc c0 c1 c2
  replace Hl := Lib.hid (Hl.out.below hb)
  replace Hk := Lib.hid (Hk.out.below hb)
  replace Ha := Lib.hid (Ha.out.below hb)
  replace Hc := Lib.hid (Hc.out.below hb)
  replace hB := chain hB hb
  obtain ⟨l0, l1, l2, l3, l4⟩ := Hl.out
  have zl := lt_of_cell l0
  obtain ⟨k0, k1, k2, k3, k4⟩ := Hk.out
  have zk := lt_of_cell k0
  obtain ⟨a0, a1, a2⟩ := Ha.out
  have za := lt_of_cell a0
  obtain ⟨c0, c1, c2⟩ := Hc.out
  have zc := lt_of_cell c0
  go_wp2
  go_ret
  exact ⟨rfl, hB⟩

theorem apart_any (op n op2 n2 t m t2 m2 : Int) (r o b r2 o2 b2 nm nm2 : ByteArray) (w : World) (hr : Regs w) (hn : NumM.inR n) (hn2 : NumM.inR n2) (hm : NumM.inR m) (hm2 : NumM.inR m2) :
    Calls Tryd.prog 6 #[lnv op r o b n, lnv op2 r2 o2 b2 n2, atv t nm m, atv t2 nm2 m2] w fun e w' => e = .returned (.bool true) ∧ Below w.heap.size w w' := by
  cases hg1 : (decide (1000 < r.size) || (decide (1000 < o.size) || decide (1000 < b.size)))
  · cases hg2 : (decide (1000 < r2.size) || (decide (1000 < o2.size) || decide (1000 < b2.size)))
    · by_cases hs1 : nm.size ≤ 1000
      · by_cases hs2 : nm2.size ≤ 1000
        · exact apart_main op n op2 n2 t m t2 m2 r o b r2 o2 b2 nm nm2 w hr hn hn2 hm hm2 hg1 hg2 hs1 hs2
        · exact apart_s4 op n op2 n2 t m t2 m2 r o b r2 o2 b2 nm nm2 w hr hg1 hg2 hs1 (by omega)
      · exact apart_s3 op n op2 n2 t m t2 m2 r o b r2 o2 b2 nm nm2 w hr hg1 hg2 (by omega)
    · exact apart_s2 op n op2 n2 t m t2 m2 r o b r2 o2 b2 nm nm2 w hr hg1 hg2
  · exact apart_s1 op n op2 n2 t m t2 m2 r o b r2 o2 b2 nm nm2 w hr hg1
end Go.Proofs.YtlfngcekbffngaaDoor
