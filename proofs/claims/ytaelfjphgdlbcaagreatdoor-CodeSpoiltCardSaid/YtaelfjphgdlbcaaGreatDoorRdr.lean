/-
  valid.reader's own closures: what is wrong with a line, by what the closure holds: each way.
  valid.reader's own closures: the state that they share, and what keeps it.
  valid.reader's own closures: a line is passed (reader$2), by its kind.
  valid.reader's closure itself (reader$3): it asks what is wrong with a line, passes it, and tells the answer; by what the two closures inside say.
  A THREAD'S READER, line by line: what it answers of a line that stands behind right ones, and what it holds then.
  valid.reader: what the closure holds that reads a thread's lines.
-/
import Derived.Test.YtaelfjphgdlbcaaGreatDoorLms
import Derived.Test.YtaelfjphgdlbcaaGreatDoorBxF
import Derived.Test.YtaelfjphgdlbcaaGreatDoorOpsK
namespace Go.Proofs.YtaelfjphgdlbcaaGreatDoor
open Go.RowKit Go.WideMaps Go.Maps
set_option linter.unusedVariables false
set_option linter.unusedSimpArgs false
open WordM (L)

/-- What the closure of a thread's reader holds: two maps, how many instructions, and whether the last line is a fence. -/
def RdC (w : World) (h ga gb : Nat) (i : Int) (f : Bool) : Prop :=
  w.cell? ⟨h, 0, none⟩ = some (.map (some ga)) ∧ w.cell? ⟨h + 1, 0, none⟩ = some (.map (some gb)) ∧ w.cell? ⟨h + 1 + 1, 0, none⟩ = some (.int .i64 i) ∧ w.cell? ⟨h + 1 + 1 + 1, 0, none⟩ = some (.bool f)
theorem RdC.below {w w' : World} {h ga gb : Nat} {i : Int} {f : Bool} (H : RdC w h ga gb i f) (hb : Below w.heap.size w w') : RdC w' h ga gb i f :=
  ⟨kc hb H.1, kc hb H.2.1, kc hb H.2.2.1, kc hb H.2.2.2⟩

set_option maxHeartbeats 4000000 in
set_option maxRecDepth 100000 in
theorem wrong_a {h ga gb na nb : Nat} {i : Int} {f : Bool} {fa fb : L → Int} {Da Db : MD} (op n : Int) (r o b : ByteArray) (w : World) (hr : Regs w) (hc : RdC w h ga gb i f) (ha : CMap w ga na fa Da) (hbh : CMap w gb nb fb Db) (hbl : b.size ≤ 100000)
    (h0 : OpsM.right op r.data.toList o.data.toList b.data.toList n = false) :
    Calls Tryz.prog 79 #[lnv op r o b n, .pointer (some ⟨h, 0, none⟩), .pointer (some ⟨h + 1 + 1 + 1, 0, none⟩), .pointer (some ⟨h + 1, 0, none⟩), .pointer (some ⟨h + 1 + 1, 0, none⟩)] w fun e w' => e = .returned (.int .i64 11) ∧ Below w.heap.size w w' := by
  have HR := Lib.hid hr
  have H0 := fun W h => right_any op n r o b W h
  have H1 := fun W => vlabel_any op n r o b W
  have H2 := fun W => vfence_any op n r o b W
  have H3 := fun W => vjump_any op n r o b W
  have H4 := fun W => vinstr_any op n r o b W
  have hB := Below.refl w.heap.size w
  have hkey := keyOf_string_mk (s := b) Tryz.underlying9 (by unfold maxLen; omega)
  have HC := Lib.hid hc
  have HA := Lib.hid ha
  have HD := Lib.hid hbh
  clear hr hc ha hbh hbl
  rw [h0] at H0
  have K0 := Lib.hid h0
  clear h0
  have H0' := Lib.hid H0
  clear H0 H1 H2 H3 H4
  unfold lnv at *
  go_enter Tryz.func79, Tryz.ntmps79
  go_wp2_with fail
  refine (H0'.out _ (HR.out.below (below_al hB _))).mono ?_
  rintro e wk1 ⟨rfl, hb⟩
  have Hl := Lib.hid ((LnBox.at (g := w.heap.size) (by first | rfl | simp) op n r o b 42).below hb)
  replace HC := Lib.hid (RdC.below HC.out ((below_al (Below.refl _ _) _).trans (hb.mono (by simp))))
  replace HA := Lib.hid (CMap.below HA.out ((below_al (Below.refl _ _) _).trans (hb.mono (by simp))))
  replace HD := Lib.hid (CMap.below HD.out ((below_al (Below.refl _ _) _).trans (hb.mono (by simp))))
  replace hB := chain (below_al hB _) hb
  obtain ⟨l0, l1, l2, l3, l4⟩ := Hl.out
  have zl := lt_of_cell l0
  obtain ⟨c0, c1, c2, c3⟩ := HC.out
  go_wp2
  go_ret
  exact ⟨rfl, hB⟩

set_option maxHeartbeats 4000000 in
set_option maxRecDepth 100000 in
theorem wrong_b1 {h ga gb na nb : Nat} {i : Int} {f : Bool} {fa fb : L → Int} {Da Db : MD} (op n : Int) (r o b : ByteArray) (w : World) (hr : Regs w) (hc : RdC w h ga gb i f) (ha : CMap w ga na fa Da) (hbh : CMap w gb nb fb Db) (hbl : b.size ≤ 100000)
    (h0 : OpsM.right op r.data.toList o.data.toList b.data.toList n = true) (h1 : op = 11) (h2 : 0 < fa b.data.toList) :
    Calls Tryz.prog 79 #[lnv op r o b n, .pointer (some ⟨h, 0, none⟩), .pointer (some ⟨h + 1 + 1 + 1, 0, none⟩), .pointer (some ⟨h + 1, 0, none⟩), .pointer (some ⟨h + 1 + 1, 0, none⟩)] w fun e w' => e = .returned (.int .i64 21) ∧ Below w.heap.size w w' := by
  have HR := Lib.hid hr
  have H0 := fun W h => right_any op n r o b W h
  have H1 := fun W => vlabel_any op n r o b W
  have H2 := fun W => vfence_any op n r o b W
  have H3 := fun W => vjump_any op n r o b W
  have H4 := fun W => vinstr_any op n r o b W
  have hB := Below.refl w.heap.size w
  have hkey := keyOf_string_mk (s := b) Tryz.underlying9 (by unfold maxLen; omega)
  have HC := Lib.hid hc
  have HA := Lib.hid ha
  have HD := Lib.hid hbh
  clear hr hc ha hbh hbl
  rw [h0] at H0
  have e1 : (op == 11) = true := by rw [h1]; rfl
  have e2 : (op == 6) = false := by rw [h1]; rfl
  rw [e1] at H1 H4
  rw [e2] at H2 H4
  have e3 : (op == 8 || (op == 9 || op == 10)) = false := by rw [h1]; rfl
  rw [e3] at H3
  clear e1 e2 e3
  have K0 := Lib.hid h0
  clear h0
  have K1 := Lib.hid h1
  clear h1
  have K2 := Lib.hid h2
  clear h2
  have H0' := Lib.hid H0
  have H1' := Lib.hid H1
  clear H0 H1 H2 H3 H4
  unfold lnv at *
  go_enter Tryz.func79, Tryz.ntmps79
  go_wp2_with fail
  refine (H0'.out _ (HR.out.below (below_al hB _))).mono ?_
  rintro e wk1 ⟨rfl, hb⟩
  have Hl := Lib.hid ((LnBox.at (g := w.heap.size) (by first | rfl | simp) op n r o b 42).below hb)
  replace HC := Lib.hid (RdC.below HC.out ((below_al (Below.refl _ _) _).trans (hb.mono (by simp))))
  replace HA := Lib.hid (CMap.below HA.out ((below_al (Below.refl _ _) _).trans (hb.mono (by simp))))
  replace HD := Lib.hid (CMap.below HD.out ((below_al (Below.refl _ _) _).trans (hb.mono (by simp))))
  replace hB := chain (below_al hB _) hb
  obtain ⟨l0, l1, l2, l3, l4⟩ := Hl.out
  have zl := lt_of_cell l0
  obtain ⟨c0, c1, c2, c3⟩ := HC.out
  go_wp2_with fail
  refine (H1'.out _).mono ?_
  rintro e wk2 ⟨rfl, hb⟩
  clear zl l0 l1 l2 l3 l4 c0 c1 c2 c3
  replace Hl := Lib.hid (Hl.out.below hb)
  replace HC := Lib.hid (RdC.below HC.out hb)
  replace HA := Lib.hid (CMap.below HA.out hb)
  replace HD := Lib.hid (CMap.below HD.out hb)
  replace hB := chain hB hb
  obtain ⟨l0, l1, l2, l3, l4⟩ := Hl.out
  have zl := lt_of_cell l0
  obtain ⟨c0, c1, c2, c3⟩ := HC.out
  obtain ⟨ca, hrun, hat, _⟩ := HA.out.1.lookup_int strKey Tryz.underlying80 Tryz.underlying3 (zeroInt _) hkey
  have hca := HA.out.val hat
  have q2 : decide ((0 : Int) < ca) = true := by rw [hca]; exact decide_eq_true (by have := K2.out; omega)
  clear hca hat
  go_wp2
  go_ret
  exact ⟨rfl, hB⟩

set_option maxHeartbeats 4000000 in
set_option maxRecDepth 100000 in
theorem wrong_b2 {h ga gb na nb : Nat} {i : Int} {f : Bool} {fa fb : L → Int} {Da Db : MD} (op n : Int) (r o b : ByteArray) (w : World) (hr : Regs w) (hc : RdC w h ga gb i f) (ha : CMap w ga na fa Da) (hbh : CMap w gb nb fb Db) (hbl : b.size ≤ 100000)
    (h0 : OpsM.right op r.data.toList o.data.toList b.data.toList n = true) (h1 : op = 11) (h2 : ¬ 0 < fa b.data.toList) (h3 : 8 ≤ Maps.size Da) :
    Calls Tryz.prog 79 #[lnv op r o b n, .pointer (some ⟨h, 0, none⟩), .pointer (some ⟨h + 1 + 1 + 1, 0, none⟩), .pointer (some ⟨h + 1, 0, none⟩), .pointer (some ⟨h + 1 + 1, 0, none⟩)] w fun e w' => e = .returned (.int .i64 5) ∧ Below w.heap.size w w' := by
  have HR := Lib.hid hr
  have H0 := fun W h => right_any op n r o b W h
  have H1 := fun W => vlabel_any op n r o b W
  have H2 := fun W => vfence_any op n r o b W
  have H3 := fun W => vjump_any op n r o b W
  have H4 := fun W => vinstr_any op n r o b W
  have hB := Below.refl w.heap.size w
  have hkey := keyOf_string_mk (s := b) Tryz.underlying9 (by unfold maxLen; omega)
  have HC := Lib.hid hc
  have HA := Lib.hid ha
  have HD := Lib.hid hbh
  clear hr hc ha hbh hbl
  rw [h0] at H0
  have e1 : (op == 11) = true := by rw [h1]; rfl
  have e2 : (op == 6) = false := by rw [h1]; rfl
  rw [e1] at H1 H4
  rw [e2] at H2 H4
  have e3 : (op == 8 || (op == 9 || op == 10)) = false := by rw [h1]; rfl
  rw [e3] at H3
  clear e1 e2 e3
  have K0 := Lib.hid h0
  clear h0
  have K1 := Lib.hid h1
  clear h1
  have K2 := Lib.hid h2
  clear h2
  have K3 := Lib.hid h3
  clear h3
  have H0' := Lib.hid H0
  have H1' := Lib.hid H1
  have H2' := Lib.hid H2
  have H3' := Lib.hid H3
  have H4' := Lib.hid H4
  clear H0 H1 H2 H3 H4
  unfold lnv at *
  go_enter Tryz.func79, Tryz.ntmps79
  go_wp2_with fail
  refine (H0'.out _ (HR.out.below (below_al hB _))).mono ?_
  rintro e wk1 ⟨rfl, hb⟩
  have Hl := Lib.hid ((LnBox.at (g := w.heap.size) (by first | rfl | simp) op n r o b 42).below hb)
  replace HC := Lib.hid (RdC.below HC.out ((below_al (Below.refl _ _) _).trans (hb.mono (by simp))))
  replace HA := Lib.hid (CMap.below HA.out ((below_al (Below.refl _ _) _).trans (hb.mono (by simp))))
  replace HD := Lib.hid (CMap.below HD.out ((below_al (Below.refl _ _) _).trans (hb.mono (by simp))))
  replace hB := chain (below_al hB _) hb
  obtain ⟨l0, l1, l2, l3, l4⟩ := Hl.out
  have zl := lt_of_cell l0
  obtain ⟨c0, c1, c2, c3⟩ := HC.out
  go_wp2_with fail
  refine (H1'.out _).mono ?_
  rintro e wk2 ⟨rfl, hb⟩
  clear zl l0 l1 l2 l3 l4 c0 c1 c2 c3
  replace Hl := Lib.hid (Hl.out.below hb)
  replace HC := Lib.hid (RdC.below HC.out hb)
  replace HA := Lib.hid (CMap.below HA.out hb)
  replace HD := Lib.hid (CMap.below HD.out hb)
  replace hB := chain hB hb
  obtain ⟨l0, l1, l2, l3, l4⟩ := Hl.out
  have zl := lt_of_cell l0
  obtain ⟨c0, c1, c2, c3⟩ := HC.out
  obtain ⟨ca, hrun, hat, _⟩ := HA.out.1.lookup_int strKey Tryz.underlying80 Tryz.underlying3 (zeroInt _) hkey
  have hca := HA.out.val hat
  have q2 : decide ((0 : Int) < ca) = false := by rw [hca]; exact decide_eq_false (by have := K2.out; omega)
  clear hca hat
  go_wp2_with fail
  refine (H2'.out _).mono ?_
  rintro e wk3 ⟨rfl, hb⟩
  clear zl l0 l1 l2 l3 l4 c0 c1 c2 c3
  replace Hl := Lib.hid (Hl.out.below hb)
  replace HC := Lib.hid (RdC.below HC.out hb)
  replace HA := Lib.hid (CMap.below HA.out hb)
  replace HD := Lib.hid (CMap.below HD.out hb)
  replace hB := chain hB hb
  obtain ⟨l0, l1, l2, l3, l4⟩ := Hl.out
  have zl := lt_of_cell l0
  obtain ⟨c0, c1, c2, c3⟩ := HC.out
  go_wp2_with fail
  refine (H3'.out _).mono ?_
  rintro e wk4 ⟨rfl, hb⟩
  clear zl l0 l1 l2 l3 l4 c0 c1 c2 c3
  replace Hl := Lib.hid (Hl.out.below hb)
  replace HC := Lib.hid (RdC.below HC.out hb)
  replace HA := Lib.hid (CMap.below HA.out hb)
  replace HD := Lib.hid (CMap.below HD.out hb)
  replace hB := chain hB hb
  obtain ⟨l0, l1, l2, l3, l4⟩ := Hl.out
  have zl := lt_of_cell l0
  obtain ⟨c0, c1, c2, c3⟩ := HC.out
  go_wp2_with fail
  refine (H4'.out _).mono ?_
  rintro e wk5 ⟨rfl, hb⟩
  clear zl l0 l1 l2 l3 l4 c0 c1 c2 c3
  replace Hl := Lib.hid (Hl.out.below hb)
  replace HC := Lib.hid (RdC.below HC.out hb)
  replace HA := Lib.hid (CMap.below HA.out hb)
  replace HD := Lib.hid (CMap.below HD.out hb)
  replace hB := chain hB hb
  obtain ⟨l0, l1, l2, l3, l4⟩ := Hl.out
  have zl := lt_of_cell l0
  obtain ⟨c0, c1, c2, c3⟩ := HC.out
  go_wp2_with fail
  refine (H1'.out _).mono ?_
  rintro e wk6 ⟨rfl, hb⟩
  clear zl l0 l1 l2 l3 l4 c0 c1 c2 c3
  replace Hl := Lib.hid (Hl.out.below hb)
  replace HC := Lib.hid (RdC.below HC.out hb)
  replace HA := Lib.hid (CMap.below HA.out hb)
  replace HD := Lib.hid (CMap.below HD.out hb)
  replace hB := chain hB hb
  obtain ⟨l0, l1, l2, l3, l4⟩ := Hl.out
  have zl := lt_of_cell l0
  obtain ⟨c0, c1, c2, c3⟩ := HC.out
  have hlen := HA.out.1.len Tryz.underlying80 3
  have q6 : decide ((8 : Int) ≤ (Maps.size Da : Int)) = true := decide_eq_true (by have := K3.out; omega)
  go_wp2
  go_ret
  exact ⟨rfl, hB⟩

set_option maxHeartbeats 4000000 in
set_option maxRecDepth 100000 in
theorem wrong_b3 {h ga gb na nb : Nat} {i : Int} {f : Bool} {fa fb : L → Int} {Da Db : MD} (op n : Int) (r o b : ByteArray) (w : World) (hr : Regs w) (hc : RdC w h ga gb i f) (ha : CMap w ga na fa Da) (hbh : CMap w gb nb fb Db) (hbl : b.size ≤ 100000)
    (h0 : OpsM.right op r.data.toList o.data.toList b.data.toList n = true) (h1 : op = 11) (h2 : ¬ 0 < fa b.data.toList) (h3 : ¬ 8 ≤ Maps.size Da) :
    Calls Tryz.prog 79 #[lnv op r o b n, .pointer (some ⟨h, 0, none⟩), .pointer (some ⟨h + 1 + 1 + 1, 0, none⟩), .pointer (some ⟨h + 1, 0, none⟩), .pointer (some ⟨h + 1 + 1, 0, none⟩)] w fun e w' => e = .returned (.int .i64 0) ∧ Below w.heap.size w w' := by
  have HR := Lib.hid hr
  have H0 := fun W h => right_any op n r o b W h
  have H1 := fun W => vlabel_any op n r o b W
  have H2 := fun W => vfence_any op n r o b W
  have H3 := fun W => vjump_any op n r o b W
  have H4 := fun W => vinstr_any op n r o b W
  have hB := Below.refl w.heap.size w
  have hkey := keyOf_string_mk (s := b) Tryz.underlying9 (by unfold maxLen; omega)
  have HC := Lib.hid hc
  have HA := Lib.hid ha
  have HD := Lib.hid hbh
  clear hr hc ha hbh hbl
  rw [h0] at H0
  have e1 : (op == 11) = true := by rw [h1]; rfl
  have e2 : (op == 6) = false := by rw [h1]; rfl
  rw [e1] at H1 H4
  rw [e2] at H2 H4
  have e3 : (op == 8 || (op == 9 || op == 10)) = false := by rw [h1]; rfl
  rw [e3] at H3
  clear e1 e2 e3
  have K0 := Lib.hid h0
  clear h0
  have K1 := Lib.hid h1
  clear h1
  have K2 := Lib.hid h2
  clear h2
  have K3 := Lib.hid h3
  clear h3
  have H0' := Lib.hid H0
  have H1' := Lib.hid H1
  have H2' := Lib.hid H2
  have H3' := Lib.hid H3
  have H4' := Lib.hid H4
  clear H0 H1 H2 H3 H4
  unfold lnv at *
  go_enter Tryz.func79, Tryz.ntmps79
  go_wp2_with fail
  refine (H0'.out _ (HR.out.below (below_al hB _))).mono ?_
  rintro e wk1 ⟨rfl, hb⟩
  have Hl := Lib.hid ((LnBox.at (g := w.heap.size) (by first | rfl | simp) op n r o b 42).below hb)
  replace HC := Lib.hid (RdC.below HC.out ((below_al (Below.refl _ _) _).trans (hb.mono (by simp))))
  replace HA := Lib.hid (CMap.below HA.out ((below_al (Below.refl _ _) _).trans (hb.mono (by simp))))
  replace HD := Lib.hid (CMap.below HD.out ((below_al (Below.refl _ _) _).trans (hb.mono (by simp))))
  replace hB := chain (below_al hB _) hb
  obtain ⟨l0, l1, l2, l3, l4⟩ := Hl.out
  have zl := lt_of_cell l0
  obtain ⟨c0, c1, c2, c3⟩ := HC.out
  go_wp2_with fail
  refine (H1'.out _).mono ?_
  rintro e wk2 ⟨rfl, hb⟩
  clear zl l0 l1 l2 l3 l4 c0 c1 c2 c3
  replace Hl := Lib.hid (Hl.out.below hb)
  replace HC := Lib.hid (RdC.below HC.out hb)
  replace HA := Lib.hid (CMap.below HA.out hb)
  replace HD := Lib.hid (CMap.below HD.out hb)
  replace hB := chain hB hb
  obtain ⟨l0, l1, l2, l3, l4⟩ := Hl.out
  have zl := lt_of_cell l0
  obtain ⟨c0, c1, c2, c3⟩ := HC.out
  obtain ⟨ca, hrun, hat, _⟩ := HA.out.1.lookup_int strKey Tryz.underlying80 Tryz.underlying3 (zeroInt _) hkey
  have hca := HA.out.val hat
  have q2 : decide ((0 : Int) < ca) = false := by rw [hca]; exact decide_eq_false (by have := K2.out; omega)
  clear hca hat
  go_wp2_with fail
  refine (H2'.out _).mono ?_
  rintro e wk3 ⟨rfl, hb⟩
  clear zl l0 l1 l2 l3 l4 c0 c1 c2 c3
  replace Hl := Lib.hid (Hl.out.below hb)
  replace HC := Lib.hid (RdC.below HC.out hb)
  replace HA := Lib.hid (CMap.below HA.out hb)
  replace HD := Lib.hid (CMap.below HD.out hb)
  replace hB := chain hB hb
  obtain ⟨l0, l1, l2, l3, l4⟩ := Hl.out
  have zl := lt_of_cell l0
  obtain ⟨c0, c1, c2, c3⟩ := HC.out
  go_wp2_with fail
  refine (H3'.out _).mono ?_
  rintro e wk4 ⟨rfl, hb⟩
  clear zl l0 l1 l2 l3 l4 c0 c1 c2 c3
  replace Hl := Lib.hid (Hl.out.below hb)
  replace HC := Lib.hid (RdC.below HC.out hb)
  replace HA := Lib.hid (CMap.below HA.out hb)
  replace HD := Lib.hid (CMap.below HD.out hb)
  replace hB := chain hB hb
  obtain ⟨l0, l1, l2, l3, l4⟩ := Hl.out
  have zl := lt_of_cell l0
  obtain ⟨c0, c1, c2, c3⟩ := HC.out
  go_wp2_with fail
  refine (H4'.out _).mono ?_
  rintro e wk5 ⟨rfl, hb⟩
  clear zl l0 l1 l2 l3 l4 c0 c1 c2 c3
  replace Hl := Lib.hid (Hl.out.below hb)
  replace HC := Lib.hid (RdC.below HC.out hb)
  replace HA := Lib.hid (CMap.below HA.out hb)
  replace HD := Lib.hid (CMap.below HD.out hb)
  replace hB := chain hB hb
  obtain ⟨l0, l1, l2, l3, l4⟩ := Hl.out
  have zl := lt_of_cell l0
  obtain ⟨c0, c1, c2, c3⟩ := HC.out
  go_wp2_with fail
  refine (H1'.out _).mono ?_
  rintro e wk6 ⟨rfl, hb⟩
  clear zl l0 l1 l2 l3 l4 c0 c1 c2 c3
  replace Hl := Lib.hid (Hl.out.below hb)
  replace HC := Lib.hid (RdC.below HC.out hb)
  replace HA := Lib.hid (CMap.below HA.out hb)
  replace HD := Lib.hid (CMap.below HD.out hb)
  replace hB := chain hB hb
  obtain ⟨l0, l1, l2, l3, l4⟩ := Hl.out
  have zl := lt_of_cell l0
  obtain ⟨c0, c1, c2, c3⟩ := HC.out
  have hlen := HA.out.1.len Tryz.underlying80 3
  have q6 : decide ((8 : Int) ≤ (Maps.size Da : Int)) = false := decide_eq_false (by have := K3.out; omega)
  go_wp2
  go_ret
  exact ⟨rfl, hB⟩

set_option maxHeartbeats 4000000 in
set_option maxRecDepth 100000 in
theorem wrong_c1 {h ga gb na nb : Nat} {i : Int} {f : Bool} {fa fb : L → Int} {Da Db : MD} (op n : Int) (r o b : ByteArray) (w : World) (hr : Regs w) (hc : RdC w h ga gb i f) (ha : CMap w ga na fa Da) (hbh : CMap w gb nb fb Db) (hbl : b.size ≤ 100000)
    (h0 : OpsM.right op r.data.toList o.data.toList b.data.toList n = true) (h1 : op = 6) (h2 : f = true) :
    Calls Tryz.prog 79 #[lnv op r o b n, .pointer (some ⟨h, 0, none⟩), .pointer (some ⟨h + 1 + 1 + 1, 0, none⟩), .pointer (some ⟨h + 1, 0, none⟩), .pointer (some ⟨h + 1 + 1, 0, none⟩)] w fun e w' => e = .returned (.int .i64 23) ∧ Below w.heap.size w w' := by
  have HR := Lib.hid hr
  have H0 := fun W h => right_any op n r o b W h
  have H1 := fun W => vlabel_any op n r o b W
  have H2 := fun W => vfence_any op n r o b W
  have H3 := fun W => vjump_any op n r o b W
  have H4 := fun W => vinstr_any op n r o b W
  have hB := Below.refl w.heap.size w
  have hkey := keyOf_string_mk (s := b) Tryz.underlying9 (by unfold maxLen; omega)
  have HC := Lib.hid hc
  have HA := Lib.hid ha
  have HD := Lib.hid hbh
  clear hr hc ha hbh hbl
  subst h2
  rw [h0] at H0
  have e1 : (op == 11) = false := by rw [h1]; rfl
  have e2 : (op == 6) = true := by rw [h1]; rfl
  rw [e1] at H1 H4
  rw [e2] at H2 H4
  have e3 : (op == 8 || (op == 9 || op == 10)) = false := by rw [h1]; rfl
  rw [e3] at H3
  clear e1 e2 e3
  have K0 := Lib.hid h0
  clear h0
  have K1 := Lib.hid h1
  clear h1
  have H0' := Lib.hid H0
  have H1' := Lib.hid H1
  have H2' := Lib.hid H2
  clear H0 H1 H2 H3 H4
  unfold lnv at *
  go_enter Tryz.func79, Tryz.ntmps79
  go_wp2_with fail
  refine (H0'.out _ (HR.out.below (below_al hB _))).mono ?_
  rintro e wk1 ⟨rfl, hb⟩
  have Hl := Lib.hid ((LnBox.at (g := w.heap.size) (by first | rfl | simp) op n r o b 42).below hb)
  replace HC := Lib.hid (RdC.below HC.out ((below_al (Below.refl _ _) _).trans (hb.mono (by simp))))
  replace HA := Lib.hid (CMap.below HA.out ((below_al (Below.refl _ _) _).trans (hb.mono (by simp))))
  replace HD := Lib.hid (CMap.below HD.out ((below_al (Below.refl _ _) _).trans (hb.mono (by simp))))
  replace hB := chain (below_al hB _) hb
  obtain ⟨l0, l1, l2, l3, l4⟩ := Hl.out
  have zl := lt_of_cell l0
  obtain ⟨c0, c1, c2, c3⟩ := HC.out
  go_wp2_with fail
  refine (H1'.out _).mono ?_
  rintro e wk2 ⟨rfl, hb⟩
  clear zl l0 l1 l2 l3 l4 c0 c1 c2 c3
  replace Hl := Lib.hid (Hl.out.below hb)
  replace HC := Lib.hid (RdC.below HC.out hb)
  replace HA := Lib.hid (CMap.below HA.out hb)
  replace HD := Lib.hid (CMap.below HD.out hb)
  replace hB := chain hB hb
  obtain ⟨l0, l1, l2, l3, l4⟩ := Hl.out
  have zl := lt_of_cell l0
  obtain ⟨c0, c1, c2, c3⟩ := HC.out
  go_wp2_with fail
  refine (H2'.out _).mono ?_
  rintro e wk3 ⟨rfl, hb⟩
  clear zl l0 l1 l2 l3 l4 c0 c1 c2 c3
  replace Hl := Lib.hid (Hl.out.below hb)
  replace HC := Lib.hid (RdC.below HC.out hb)
  replace HA := Lib.hid (CMap.below HA.out hb)
  replace HD := Lib.hid (CMap.below HD.out hb)
  replace hB := chain hB hb
  obtain ⟨l0, l1, l2, l3, l4⟩ := Hl.out
  have zl := lt_of_cell l0
  obtain ⟨c0, c1, c2, c3⟩ := HC.out
  go_wp2
  go_ret
  exact ⟨rfl, hB⟩

set_option maxHeartbeats 4000000 in
set_option maxRecDepth 100000 in
theorem wrong_c2 {h ga gb na nb : Nat} {i : Int} {f : Bool} {fa fb : L → Int} {Da Db : MD} (op n : Int) (r o b : ByteArray) (w : World) (hr : Regs w) (hc : RdC w h ga gb i f) (ha : CMap w ga na fa Da) (hbh : CMap w gb nb fb Db) (hbl : b.size ≤ 100000)
    (h0 : OpsM.right op r.data.toList o.data.toList b.data.toList n = true) (h1 : op = 6) (h2 : f = false) :
    Calls Tryz.prog 79 #[lnv op r o b n, .pointer (some ⟨h, 0, none⟩), .pointer (some ⟨h + 1 + 1 + 1, 0, none⟩), .pointer (some ⟨h + 1, 0, none⟩), .pointer (some ⟨h + 1 + 1, 0, none⟩)] w fun e w' => e = .returned (.int .i64 0) ∧ Below w.heap.size w w' := by
  have HR := Lib.hid hr
  have H0 := fun W h => right_any op n r o b W h
  have H1 := fun W => vlabel_any op n r o b W
  have H2 := fun W => vfence_any op n r o b W
  have H3 := fun W => vjump_any op n r o b W
  have H4 := fun W => vinstr_any op n r o b W
  have hB := Below.refl w.heap.size w
  have hkey := keyOf_string_mk (s := b) Tryz.underlying9 (by unfold maxLen; omega)
  have HC := Lib.hid hc
  have HA := Lib.hid ha
  have HD := Lib.hid hbh
  clear hr hc ha hbh hbl
  subst h2
  rw [h0] at H0
  have e1 : (op == 11) = false := by rw [h1]; rfl
  have e2 : (op == 6) = true := by rw [h1]; rfl
  rw [e1] at H1 H4
  rw [e2] at H2 H4
  have e3 : (op == 8 || (op == 9 || op == 10)) = false := by rw [h1]; rfl
  rw [e3] at H3
  clear e1 e2 e3
  have K0 := Lib.hid h0
  clear h0
  have K1 := Lib.hid h1
  clear h1
  have H0' := Lib.hid H0
  have H1' := Lib.hid H1
  have H2' := Lib.hid H2
  have H3' := Lib.hid H3
  have H4' := Lib.hid H4
  clear H0 H1 H2 H3 H4
  unfold lnv at *
  go_enter Tryz.func79, Tryz.ntmps79
  go_wp2_with fail
  refine (H0'.out _ (HR.out.below (below_al hB _))).mono ?_
  rintro e wk1 ⟨rfl, hb⟩
  have Hl := Lib.hid ((LnBox.at (g := w.heap.size) (by first | rfl | simp) op n r o b 42).below hb)
  replace HC := Lib.hid (RdC.below HC.out ((below_al (Below.refl _ _) _).trans (hb.mono (by simp))))
  replace HA := Lib.hid (CMap.below HA.out ((below_al (Below.refl _ _) _).trans (hb.mono (by simp))))
  replace HD := Lib.hid (CMap.below HD.out ((below_al (Below.refl _ _) _).trans (hb.mono (by simp))))
  replace hB := chain (below_al hB _) hb
  obtain ⟨l0, l1, l2, l3, l4⟩ := Hl.out
  have zl := lt_of_cell l0
  obtain ⟨c0, c1, c2, c3⟩ := HC.out
  go_wp2_with fail
  refine (H1'.out _).mono ?_
  rintro e wk2 ⟨rfl, hb⟩
  clear zl l0 l1 l2 l3 l4 c0 c1 c2 c3
  replace Hl := Lib.hid (Hl.out.below hb)
  replace HC := Lib.hid (RdC.below HC.out hb)
  replace HA := Lib.hid (CMap.below HA.out hb)
  replace HD := Lib.hid (CMap.below HD.out hb)
  replace hB := chain hB hb
  obtain ⟨l0, l1, l2, l3, l4⟩ := Hl.out
  have zl := lt_of_cell l0
  obtain ⟨c0, c1, c2, c3⟩ := HC.out
  go_wp2_with fail
  refine (H2'.out _).mono ?_
  rintro e wk3 ⟨rfl, hb⟩
  clear zl l0 l1 l2 l3 l4 c0 c1 c2 c3
  replace Hl := Lib.hid (Hl.out.below hb)
  replace HC := Lib.hid (RdC.below HC.out hb)
  replace HA := Lib.hid (CMap.below HA.out hb)
  replace HD := Lib.hid (CMap.below HD.out hb)
  replace hB := chain hB hb
  obtain ⟨l0, l1, l2, l3, l4⟩ := Hl.out
  have zl := lt_of_cell l0
  obtain ⟨c0, c1, c2, c3⟩ := HC.out
  go_wp2_with fail
  refine (H3'.out _).mono ?_
  rintro e wk4 ⟨rfl, hb⟩
  clear zl l0 l1 l2 l3 l4 c0 c1 c2 c3
  replace Hl := Lib.hid (Hl.out.below hb)
  replace HC := Lib.hid (RdC.below HC.out hb)
  replace HA := Lib.hid (CMap.below HA.out hb)
  replace HD := Lib.hid (CMap.below HD.out hb)
  replace hB := chain hB hb
  obtain ⟨l0, l1, l2, l3, l4⟩ := Hl.out
  have zl := lt_of_cell l0
  obtain ⟨c0, c1, c2, c3⟩ := HC.out
  go_wp2_with fail
  refine (H4'.out _).mono ?_
  rintro e wk5 ⟨rfl, hb⟩
  clear zl l0 l1 l2 l3 l4 c0 c1 c2 c3
  replace Hl := Lib.hid (Hl.out.below hb)
  replace HC := Lib.hid (RdC.below HC.out hb)
  replace HA := Lib.hid (CMap.below HA.out hb)
  replace HD := Lib.hid (CMap.below HD.out hb)
  replace hB := chain hB hb
  obtain ⟨l0, l1, l2, l3, l4⟩ := Hl.out
  have zl := lt_of_cell l0
  obtain ⟨c0, c1, c2, c3⟩ := HC.out
  go_wp2_with fail
  refine (H1'.out _).mono ?_
  rintro e wk6 ⟨rfl, hb⟩
  clear zl l0 l1 l2 l3 l4 c0 c1 c2 c3
  replace Hl := Lib.hid (Hl.out.below hb)
  replace HC := Lib.hid (RdC.below HC.out hb)
  replace HA := Lib.hid (CMap.below HA.out hb)
  replace HD := Lib.hid (CMap.below HD.out hb)
  replace hB := chain hB hb
  obtain ⟨l0, l1, l2, l3, l4⟩ := Hl.out
  have zl := lt_of_cell l0
  obtain ⟨c0, c1, c2, c3⟩ := HC.out
  go_wp2
  go_ret
  exact ⟨rfl, hB⟩

set_option maxHeartbeats 4000000 in
set_option maxRecDepth 100000 in
theorem wrong_d1 {h ga gb na nb : Nat} {i : Int} {f : Bool} {fa fb : L → Int} {Da Db : MD} (op n : Int) (r o b : ByteArray) (w : World) (hr : Regs w) (hc : RdC w h ga gb i f) (ha : CMap w ga na fa Da) (hbh : CMap w gb nb fb Db) (hbl : b.size ≤ 100000)
    (h0 : OpsM.right op r.data.toList o.data.toList b.data.toList n = true) (h1 : op = 8 ∨ op = 9 ∨ op = 10) (h2 : fb b.data.toList = 0) :
    Calls Tryz.prog 79 #[lnv op r o b n, .pointer (some ⟨h, 0, none⟩), .pointer (some ⟨h + 1 + 1 + 1, 0, none⟩), .pointer (some ⟨h + 1, 0, none⟩), .pointer (some ⟨h + 1 + 1, 0, none⟩)] w fun e w' => e = .returned (.int .i64 22) ∧ Below w.heap.size w w' := by
  have HR := Lib.hid hr
  have H0 := fun W h => right_any op n r o b W h
  have H1 := fun W => vlabel_any op n r o b W
  have H2 := fun W => vfence_any op n r o b W
  have H3 := fun W => vjump_any op n r o b W
  have H4 := fun W => vinstr_any op n r o b W
  have hB := Below.refl w.heap.size w
  have hkey := keyOf_string_mk (s := b) Tryz.underlying9 (by unfold maxLen; omega)
  have HC := Lib.hid hc
  have HA := Lib.hid ha
  have HD := Lib.hid hbh
  clear hr hc ha hbh hbl
  rw [h0] at H0
  have e1 : (op == 11) = false := by rcases h1 with h1 | h1 | h1 <;> rw [h1] <;> rfl
  have e2 : (op == 6) = false := by rcases h1 with h1 | h1 | h1 <;> rw [h1] <;> rfl
  rw [e1] at H1 H4
  rw [e2] at H2 H4
  have e3 : (op == 8 || (op == 9 || op == 10)) = true := by rcases h1 with h1 | h1 | h1 <;> rw [h1] <;> rfl
  rw [e3] at H3
  clear e1 e2 e3
  have K0 := Lib.hid h0
  clear h0
  have K1 := Lib.hid h1
  clear h1
  have K2 := Lib.hid h2
  clear h2
  have H0' := Lib.hid H0
  have H1' := Lib.hid H1
  have H2' := Lib.hid H2
  have H3' := Lib.hid H3
  clear H0 H1 H2 H3 H4
  unfold lnv at *
  go_enter Tryz.func79, Tryz.ntmps79
  go_wp2_with fail
  refine (H0'.out _ (HR.out.below (below_al hB _))).mono ?_
  rintro e wk1 ⟨rfl, hb⟩
  have Hl := Lib.hid ((LnBox.at (g := w.heap.size) (by first | rfl | simp) op n r o b 42).below hb)
  replace HC := Lib.hid (RdC.below HC.out ((below_al (Below.refl _ _) _).trans (hb.mono (by simp))))
  replace HA := Lib.hid (CMap.below HA.out ((below_al (Below.refl _ _) _).trans (hb.mono (by simp))))
  replace HD := Lib.hid (CMap.below HD.out ((below_al (Below.refl _ _) _).trans (hb.mono (by simp))))
  replace hB := chain (below_al hB _) hb
  obtain ⟨l0, l1, l2, l3, l4⟩ := Hl.out
  have zl := lt_of_cell l0
  obtain ⟨c0, c1, c2, c3⟩ := HC.out
  go_wp2_with fail
  refine (H1'.out _).mono ?_
  rintro e wk2 ⟨rfl, hb⟩
  clear zl l0 l1 l2 l3 l4 c0 c1 c2 c3
  replace Hl := Lib.hid (Hl.out.below hb)
  replace HC := Lib.hid (RdC.below HC.out hb)
  replace HA := Lib.hid (CMap.below HA.out hb)
  replace HD := Lib.hid (CMap.below HD.out hb)
  replace hB := chain hB hb
  obtain ⟨l0, l1, l2, l3, l4⟩ := Hl.out
  have zl := lt_of_cell l0
  obtain ⟨c0, c1, c2, c3⟩ := HC.out
  go_wp2_with fail
  refine (H2'.out _).mono ?_
  rintro e wk3 ⟨rfl, hb⟩
  clear zl l0 l1 l2 l3 l4 c0 c1 c2 c3
  replace Hl := Lib.hid (Hl.out.below hb)
  replace HC := Lib.hid (RdC.below HC.out hb)
  replace HA := Lib.hid (CMap.below HA.out hb)
  replace HD := Lib.hid (CMap.below HD.out hb)
  replace hB := chain hB hb
  obtain ⟨l0, l1, l2, l3, l4⟩ := Hl.out
  have zl := lt_of_cell l0
  obtain ⟨c0, c1, c2, c3⟩ := HC.out
  go_wp2_with fail
  refine (H3'.out _).mono ?_
  rintro e wk4 ⟨rfl, hb⟩
  clear zl l0 l1 l2 l3 l4 c0 c1 c2 c3
  replace Hl := Lib.hid (Hl.out.below hb)
  replace HC := Lib.hid (RdC.below HC.out hb)
  replace HA := Lib.hid (CMap.below HA.out hb)
  replace HD := Lib.hid (CMap.below HD.out hb)
  replace hB := chain hB hb
  obtain ⟨l0, l1, l2, l3, l4⟩ := Hl.out
  have zl := lt_of_cell l0
  obtain ⟨c0, c1, c2, c3⟩ := HC.out
  obtain ⟨cb, hrun, hat, _⟩ := HD.out.1.lookup_int strKey Tryz.underlying80 Tryz.underlying3 (zeroInt _) hkey
  have hcb := HD.out.val hat
  have q4 : (cb == 0) = true := by rw [hcb]; rw [K2.out]; rfl
  clear hcb hat
  go_wp2
  go_ret
  exact ⟨rfl, hB⟩

set_option maxHeartbeats 4000000 in
set_option maxRecDepth 100000 in
theorem wrong_d2 {h ga gb na nb : Nat} {i : Int} {f : Bool} {fa fb : L → Int} {Da Db : MD} (op n : Int) (r o b : ByteArray) (w : World) (hr : Regs w) (hc : RdC w h ga gb i f) (ha : CMap w ga na fa Da) (hbh : CMap w gb nb fb Db) (hbl : b.size ≤ 100000)
    (h0 : OpsM.right op r.data.toList o.data.toList b.data.toList n = true) (h1 : op = 8 ∨ op = 9 ∨ op = 10) (h2 : fb b.data.toList ≠ 0) (h3 : 8 ≤ i) :
    Calls Tryz.prog 79 #[lnv op r o b n, .pointer (some ⟨h, 0, none⟩), .pointer (some ⟨h + 1 + 1 + 1, 0, none⟩), .pointer (some ⟨h + 1, 0, none⟩), .pointer (some ⟨h + 1 + 1, 0, none⟩)] w fun e w' => e = .returned (.int .i64 5) ∧ Below w.heap.size w w' := by
  have HR := Lib.hid hr
  have H0 := fun W h => right_any op n r o b W h
  have H1 := fun W => vlabel_any op n r o b W
  have H2 := fun W => vfence_any op n r o b W
  have H3 := fun W => vjump_any op n r o b W
  have H4 := fun W => vinstr_any op n r o b W
  have hB := Below.refl w.heap.size w
  have hkey := keyOf_string_mk (s := b) Tryz.underlying9 (by unfold maxLen; omega)
  have HC := Lib.hid hc
  have HA := Lib.hid ha
  have HD := Lib.hid hbh
  clear hr hc ha hbh hbl
  have q9 : decide ((8 : Int) ≤ i) = true := decide_eq_true h3
  rw [h0] at H0
  have e1 : (op == 11) = false := by rcases h1 with h1 | h1 | h1 <;> rw [h1] <;> rfl
  have e2 : (op == 6) = false := by rcases h1 with h1 | h1 | h1 <;> rw [h1] <;> rfl
  rw [e1] at H1 H4
  rw [e2] at H2 H4
  have e3 : (op == 8 || (op == 9 || op == 10)) = true := by rcases h1 with h1 | h1 | h1 <;> rw [h1] <;> rfl
  rw [e3] at H3
  clear e1 e2 e3
  have K0 := Lib.hid h0
  clear h0
  have K1 := Lib.hid h1
  clear h1
  have K2 := Lib.hid h2
  clear h2
  have K3 := Lib.hid h3
  clear h3
  have H0' := Lib.hid H0
  have H1' := Lib.hid H1
  have H2' := Lib.hid H2
  have H3' := Lib.hid H3
  have H4' := Lib.hid H4
  clear H0 H1 H2 H3 H4
  unfold lnv at *
  go_enter Tryz.func79, Tryz.ntmps79
  go_wp2_with fail
  refine (H0'.out _ (HR.out.below (below_al hB _))).mono ?_
  rintro e wk1 ⟨rfl, hb⟩
  have Hl := Lib.hid ((LnBox.at (g := w.heap.size) (by first | rfl | simp) op n r o b 42).below hb)
  replace HC := Lib.hid (RdC.below HC.out ((below_al (Below.refl _ _) _).trans (hb.mono (by simp))))
  replace HA := Lib.hid (CMap.below HA.out ((below_al (Below.refl _ _) _).trans (hb.mono (by simp))))
  replace HD := Lib.hid (CMap.below HD.out ((below_al (Below.refl _ _) _).trans (hb.mono (by simp))))
  replace hB := chain (below_al hB _) hb
  obtain ⟨l0, l1, l2, l3, l4⟩ := Hl.out
  have zl := lt_of_cell l0
  obtain ⟨c0, c1, c2, c3⟩ := HC.out
  go_wp2_with fail
  refine (H1'.out _).mono ?_
  rintro e wk2 ⟨rfl, hb⟩
  clear zl l0 l1 l2 l3 l4 c0 c1 c2 c3
  replace Hl := Lib.hid (Hl.out.below hb)
  replace HC := Lib.hid (RdC.below HC.out hb)
  replace HA := Lib.hid (CMap.below HA.out hb)
  replace HD := Lib.hid (CMap.below HD.out hb)
  replace hB := chain hB hb
  obtain ⟨l0, l1, l2, l3, l4⟩ := Hl.out
  have zl := lt_of_cell l0
  obtain ⟨c0, c1, c2, c3⟩ := HC.out
  go_wp2_with fail
  refine (H2'.out _).mono ?_
  rintro e wk3 ⟨rfl, hb⟩
  clear zl l0 l1 l2 l3 l4 c0 c1 c2 c3
  replace Hl := Lib.hid (Hl.out.below hb)
  replace HC := Lib.hid (RdC.below HC.out hb)
  replace HA := Lib.hid (CMap.below HA.out hb)
  replace HD := Lib.hid (CMap.below HD.out hb)
  replace hB := chain hB hb
  obtain ⟨l0, l1, l2, l3, l4⟩ := Hl.out
  have zl := lt_of_cell l0
  obtain ⟨c0, c1, c2, c3⟩ := HC.out
  go_wp2_with fail
  refine (H3'.out _).mono ?_
  rintro e wk4 ⟨rfl, hb⟩
  clear zl l0 l1 l2 l3 l4 c0 c1 c2 c3
  replace Hl := Lib.hid (Hl.out.below hb)
  replace HC := Lib.hid (RdC.below HC.out hb)
  replace HA := Lib.hid (CMap.below HA.out hb)
  replace HD := Lib.hid (CMap.below HD.out hb)
  replace hB := chain hB hb
  obtain ⟨l0, l1, l2, l3, l4⟩ := Hl.out
  have zl := lt_of_cell l0
  obtain ⟨c0, c1, c2, c3⟩ := HC.out
  obtain ⟨cb, hrun, hat, _⟩ := HD.out.1.lookup_int strKey Tryz.underlying80 Tryz.underlying3 (zeroInt _) hkey
  have hcb := HD.out.val hat
  have q4 : (cb == 0) = false := by rw [hcb]; exact beq_eq_false_iff_ne.2 (by have := K2.out; omega)
  clear hcb hat
  go_wp2_with fail
  refine (H4'.out _).mono ?_
  rintro e wk5 ⟨rfl, hb⟩
  clear zl l0 l1 l2 l3 l4 c0 c1 c2 c3
  replace Hl := Lib.hid (Hl.out.below hb)
  replace HC := Lib.hid (RdC.below HC.out hb)
  replace HA := Lib.hid (CMap.below HA.out hb)
  replace HD := Lib.hid (CMap.below HD.out hb)
  replace hB := chain hB hb
  obtain ⟨l0, l1, l2, l3, l4⟩ := Hl.out
  have zl := lt_of_cell l0
  obtain ⟨c0, c1, c2, c3⟩ := HC.out
  go_wp2
  go_ret
  exact ⟨rfl, hB⟩

set_option maxHeartbeats 4000000 in
set_option maxRecDepth 100000 in
theorem wrong_d3 {h ga gb na nb : Nat} {i : Int} {f : Bool} {fa fb : L → Int} {Da Db : MD} (op n : Int) (r o b : ByteArray) (w : World) (hr : Regs w) (hc : RdC w h ga gb i f) (ha : CMap w ga na fa Da) (hbh : CMap w gb nb fb Db) (hbl : b.size ≤ 100000)
    (h0 : OpsM.right op r.data.toList o.data.toList b.data.toList n = true) (h1 : op = 8 ∨ op = 9 ∨ op = 10) (h2 : fb b.data.toList ≠ 0) (h3 : ¬ 8 ≤ i) :
    Calls Tryz.prog 79 #[lnv op r o b n, .pointer (some ⟨h, 0, none⟩), .pointer (some ⟨h + 1 + 1 + 1, 0, none⟩), .pointer (some ⟨h + 1, 0, none⟩), .pointer (some ⟨h + 1 + 1, 0, none⟩)] w fun e w' => e = .returned (.int .i64 0) ∧ Below w.heap.size w w' := by
  have HR := Lib.hid hr
  have H0 := fun W h => right_any op n r o b W h
  have H1 := fun W => vlabel_any op n r o b W
  have H2 := fun W => vfence_any op n r o b W
  have H3 := fun W => vjump_any op n r o b W
  have H4 := fun W => vinstr_any op n r o b W
  have hB := Below.refl w.heap.size w
  have hkey := keyOf_string_mk (s := b) Tryz.underlying9 (by unfold maxLen; omega)
  have HC := Lib.hid hc
  have HA := Lib.hid ha
  have HD := Lib.hid hbh
  clear hr hc ha hbh hbl
  have q9 : decide ((8 : Int) ≤ i) = false := decide_eq_false h3
  rw [h0] at H0
  have e1 : (op == 11) = false := by rcases h1 with h1 | h1 | h1 <;> rw [h1] <;> rfl
  have e2 : (op == 6) = false := by rcases h1 with h1 | h1 | h1 <;> rw [h1] <;> rfl
  rw [e1] at H1 H4
  rw [e2] at H2 H4
  have e3 : (op == 8 || (op == 9 || op == 10)) = true := by rcases h1 with h1 | h1 | h1 <;> rw [h1] <;> rfl
  rw [e3] at H3
  clear e1 e2 e3
  have K0 := Lib.hid h0
  clear h0
  have K1 := Lib.hid h1
  clear h1
  have K2 := Lib.hid h2
  clear h2
  have K3 := Lib.hid h3
  clear h3
  have H0' := Lib.hid H0
  have H1' := Lib.hid H1
  have H2' := Lib.hid H2
  have H3' := Lib.hid H3
  have H4' := Lib.hid H4
  clear H0 H1 H2 H3 H4
  unfold lnv at *
  go_enter Tryz.func79, Tryz.ntmps79
  go_wp2_with fail
  refine (H0'.out _ (HR.out.below (below_al hB _))).mono ?_
  rintro e wk1 ⟨rfl, hb⟩
  have Hl := Lib.hid ((LnBox.at (g := w.heap.size) (by first | rfl | simp) op n r o b 42).below hb)
  replace HC := Lib.hid (RdC.below HC.out ((below_al (Below.refl _ _) _).trans (hb.mono (by simp))))
  replace HA := Lib.hid (CMap.below HA.out ((below_al (Below.refl _ _) _).trans (hb.mono (by simp))))
  replace HD := Lib.hid (CMap.below HD.out ((below_al (Below.refl _ _) _).trans (hb.mono (by simp))))
  replace hB := chain (below_al hB _) hb
  obtain ⟨l0, l1, l2, l3, l4⟩ := Hl.out
  have zl := lt_of_cell l0
  obtain ⟨c0, c1, c2, c3⟩ := HC.out
  go_wp2_with fail
  refine (H1'.out _).mono ?_
  rintro e wk2 ⟨rfl, hb⟩
  clear zl l0 l1 l2 l3 l4 c0 c1 c2 c3
  replace Hl := Lib.hid (Hl.out.below hb)
  replace HC := Lib.hid (RdC.below HC.out hb)
  replace HA := Lib.hid (CMap.below HA.out hb)
  replace HD := Lib.hid (CMap.below HD.out hb)
  replace hB := chain hB hb
  obtain ⟨l0, l1, l2, l3, l4⟩ := Hl.out
  have zl := lt_of_cell l0
  obtain ⟨c0, c1, c2, c3⟩ := HC.out
  go_wp2_with fail
  refine (H2'.out _).mono ?_
  rintro e wk3 ⟨rfl, hb⟩
  clear zl l0 l1 l2 l3 l4 c0 c1 c2 c3
  replace Hl := Lib.hid (Hl.out.below hb)
  replace HC := Lib.hid (RdC.below HC.out hb)
  replace HA := Lib.hid (CMap.below HA.out hb)
  replace HD := Lib.hid (CMap.below HD.out hb)
  replace hB := chain hB hb
  obtain ⟨l0, l1, l2, l3, l4⟩ := Hl.out
  have zl := lt_of_cell l0
  obtain ⟨c0, c1, c2, c3⟩ := HC.out
  go_wp2_with fail
  refine (H3'.out _).mono ?_
  rintro e wk4 ⟨rfl, hb⟩
  clear zl l0 l1 l2 l3 l4 c0 c1 c2 c3
  replace Hl := Lib.hid (Hl.out.below hb)
  replace HC := Lib.hid (RdC.below HC.out hb)
  replace HA := Lib.hid (CMap.below HA.out hb)
  replace HD := Lib.hid (CMap.below HD.out hb)
  replace hB := chain hB hb
  obtain ⟨l0, l1, l2, l3, l4⟩ := Hl.out
  have zl := lt_of_cell l0
  obtain ⟨c0, c1, c2, c3⟩ := HC.out
  obtain ⟨cb, hrun, hat, _⟩ := HD.out.1.lookup_int strKey Tryz.underlying80 Tryz.underlying3 (zeroInt _) hkey
  have hcb := HD.out.val hat
  have q4 : (cb == 0) = false := by rw [hcb]; exact beq_eq_false_iff_ne.2 (by have := K2.out; omega)
  clear hcb hat
  go_wp2_with fail
  refine (H4'.out _).mono ?_
  rintro e wk5 ⟨rfl, hb⟩
  clear zl l0 l1 l2 l3 l4 c0 c1 c2 c3
  replace Hl := Lib.hid (Hl.out.below hb)
  replace HC := Lib.hid (RdC.below HC.out hb)
  replace HA := Lib.hid (CMap.below HA.out hb)
  replace HD := Lib.hid (CMap.below HD.out hb)
  replace hB := chain hB hb
  obtain ⟨l0, l1, l2, l3, l4⟩ := Hl.out
  have zl := lt_of_cell l0
  obtain ⟨c0, c1, c2, c3⟩ := HC.out
  go_wp2_with fail
  refine (H1'.out _).mono ?_
  rintro e wk6 ⟨rfl, hb⟩
  clear zl l0 l1 l2 l3 l4 c0 c1 c2 c3
  replace Hl := Lib.hid (Hl.out.below hb)
  replace HC := Lib.hid (RdC.below HC.out hb)
  replace HA := Lib.hid (CMap.below HA.out hb)
  replace HD := Lib.hid (CMap.below HD.out hb)
  replace hB := chain hB hb
  obtain ⟨l0, l1, l2, l3, l4⟩ := Hl.out
  have zl := lt_of_cell l0
  obtain ⟨c0, c1, c2, c3⟩ := HC.out
  go_wp2
  go_ret
  exact ⟨rfl, hB⟩

set_option maxHeartbeats 4000000 in
set_option maxRecDepth 100000 in
theorem wrong_e1 {h ga gb na nb : Nat} {i : Int} {f : Bool} {fa fb : L → Int} {Da Db : MD} (op n : Int) (r o b : ByteArray) (w : World) (hr : Regs w) (hc : RdC w h ga gb i f) (ha : CMap w ga na fa Da) (hbh : CMap w gb nb fb Db) (hbl : b.size ≤ 100000)
    (h0 : OpsM.right op r.data.toList o.data.toList b.data.toList n = true) (h1 : op ≠ 11 ∧ op ≠ 6 ∧ op ≠ 8 ∧ op ≠ 9 ∧ op ≠ 10) (h3 : 8 ≤ i) :
    Calls Tryz.prog 79 #[lnv op r o b n, .pointer (some ⟨h, 0, none⟩), .pointer (some ⟨h + 1 + 1 + 1, 0, none⟩), .pointer (some ⟨h + 1, 0, none⟩), .pointer (some ⟨h + 1 + 1, 0, none⟩)] w fun e w' => e = .returned (.int .i64 5) ∧ Below w.heap.size w w' := by
  have HR := Lib.hid hr
  have H0 := fun W h => right_any op n r o b W h
  have H1 := fun W => vlabel_any op n r o b W
  have H2 := fun W => vfence_any op n r o b W
  have H3 := fun W => vjump_any op n r o b W
  have H4 := fun W => vinstr_any op n r o b W
  have hB := Below.refl w.heap.size w
  have hkey := keyOf_string_mk (s := b) Tryz.underlying9 (by unfold maxLen; omega)
  have HC := Lib.hid hc
  have HA := Lib.hid ha
  have HD := Lib.hid hbh
  clear hr hc ha hbh hbl
  have q9 : decide ((8 : Int) ≤ i) = true := decide_eq_true h3
  rw [h0] at H0
  have e1 : (op == 11) = false := beq_eq_false_iff_ne.2 h1.1
  have e2 : (op == 6) = false := beq_eq_false_iff_ne.2 h1.2.1
  rw [e1] at H1 H4
  rw [e2] at H2 H4
  have e3 : (op == 8 || (op == 9 || op == 10)) = false := by simp [h1.2.2.1, h1.2.2.2.1, h1.2.2.2.2]
  rw [e3] at H3
  clear e1 e2 e3
  have K0 := Lib.hid h0
  clear h0
  have K1 := Lib.hid h1
  clear h1
  have K3 := Lib.hid h3
  clear h3
  have H0' := Lib.hid H0
  have H1' := Lib.hid H1
  have H2' := Lib.hid H2
  have H3' := Lib.hid H3
  have H4' := Lib.hid H4
  clear H0 H1 H2 H3 H4
  unfold lnv at *
  go_enter Tryz.func79, Tryz.ntmps79
  go_wp2_with fail
  refine (H0'.out _ (HR.out.below (below_al hB _))).mono ?_
  rintro e wk1 ⟨rfl, hb⟩
  have Hl := Lib.hid ((LnBox.at (g := w.heap.size) (by first | rfl | simp) op n r o b 42).below hb)
  replace HC := Lib.hid (RdC.below HC.out ((below_al (Below.refl _ _) _).trans (hb.mono (by simp))))
  replace HA := Lib.hid (CMap.below HA.out ((below_al (Below.refl _ _) _).trans (hb.mono (by simp))))
  replace HD := Lib.hid (CMap.below HD.out ((below_al (Below.refl _ _) _).trans (hb.mono (by simp))))
  replace hB := chain (below_al hB _) hb
  obtain ⟨l0, l1, l2, l3, l4⟩ := Hl.out
  have zl := lt_of_cell l0
  obtain ⟨c0, c1, c2, c3⟩ := HC.out
  go_wp2_with fail
  refine (H1'.out _).mono ?_
  rintro e wk2 ⟨rfl, hb⟩
  clear zl l0 l1 l2 l3 l4 c0 c1 c2 c3
  replace Hl := Lib.hid (Hl.out.below hb)
  replace HC := Lib.hid (RdC.below HC.out hb)
  replace HA := Lib.hid (CMap.below HA.out hb)
  replace HD := Lib.hid (CMap.below HD.out hb)
  replace hB := chain hB hb
  obtain ⟨l0, l1, l2, l3, l4⟩ := Hl.out
  have zl := lt_of_cell l0
  obtain ⟨c0, c1, c2, c3⟩ := HC.out
  go_wp2_with fail
  refine (H2'.out _).mono ?_
  rintro e wk3 ⟨rfl, hb⟩
  clear zl l0 l1 l2 l3 l4 c0 c1 c2 c3
  replace Hl := Lib.hid (Hl.out.below hb)
  replace HC := Lib.hid (RdC.below HC.out hb)
  replace HA := Lib.hid (CMap.below HA.out hb)
  replace HD := Lib.hid (CMap.below HD.out hb)
  replace hB := chain hB hb
  obtain ⟨l0, l1, l2, l3, l4⟩ := Hl.out
  have zl := lt_of_cell l0
  obtain ⟨c0, c1, c2, c3⟩ := HC.out
  go_wp2_with fail
  refine (H3'.out _).mono ?_
  rintro e wk4 ⟨rfl, hb⟩
  clear zl l0 l1 l2 l3 l4 c0 c1 c2 c3
  replace Hl := Lib.hid (Hl.out.below hb)
  replace HC := Lib.hid (RdC.below HC.out hb)
  replace HA := Lib.hid (CMap.below HA.out hb)
  replace HD := Lib.hid (CMap.below HD.out hb)
  replace hB := chain hB hb
  obtain ⟨l0, l1, l2, l3, l4⟩ := Hl.out
  have zl := lt_of_cell l0
  obtain ⟨c0, c1, c2, c3⟩ := HC.out
  go_wp2_with fail
  refine (H4'.out _).mono ?_
  rintro e wk5 ⟨rfl, hb⟩
  clear zl l0 l1 l2 l3 l4 c0 c1 c2 c3
  replace Hl := Lib.hid (Hl.out.below hb)
  replace HC := Lib.hid (RdC.below HC.out hb)
  replace HA := Lib.hid (CMap.below HA.out hb)
  replace HD := Lib.hid (CMap.below HD.out hb)
  replace hB := chain hB hb
  obtain ⟨l0, l1, l2, l3, l4⟩ := Hl.out
  have zl := lt_of_cell l0
  obtain ⟨c0, c1, c2, c3⟩ := HC.out
  go_wp2
  go_ret
  exact ⟨rfl, hB⟩

set_option maxHeartbeats 4000000 in
set_option maxRecDepth 100000 in
theorem wrong_e2 {h ga gb na nb : Nat} {i : Int} {f : Bool} {fa fb : L → Int} {Da Db : MD} (op n : Int) (r o b : ByteArray) (w : World) (hr : Regs w) (hc : RdC w h ga gb i f) (ha : CMap w ga na fa Da) (hbh : CMap w gb nb fb Db) (hbl : b.size ≤ 100000)
    (h0 : OpsM.right op r.data.toList o.data.toList b.data.toList n = true) (h1 : op ≠ 11 ∧ op ≠ 6 ∧ op ≠ 8 ∧ op ≠ 9 ∧ op ≠ 10) (h3 : ¬ 8 ≤ i) :
    Calls Tryz.prog 79 #[lnv op r o b n, .pointer (some ⟨h, 0, none⟩), .pointer (some ⟨h + 1 + 1 + 1, 0, none⟩), .pointer (some ⟨h + 1, 0, none⟩), .pointer (some ⟨h + 1 + 1, 0, none⟩)] w fun e w' => e = .returned (.int .i64 0) ∧ Below w.heap.size w w' := by
  have HR := Lib.hid hr
  have H0 := fun W h => right_any op n r o b W h
  have H1 := fun W => vlabel_any op n r o b W
  have H2 := fun W => vfence_any op n r o b W
  have H3 := fun W => vjump_any op n r o b W
  have H4 := fun W => vinstr_any op n r o b W
  have hB := Below.refl w.heap.size w
  have hkey := keyOf_string_mk (s := b) Tryz.underlying9 (by unfold maxLen; omega)
  have HC := Lib.hid hc
  have HA := Lib.hid ha
  have HD := Lib.hid hbh
  clear hr hc ha hbh hbl
  have q9 : decide ((8 : Int) ≤ i) = false := decide_eq_false h3
  rw [h0] at H0
  have e1 : (op == 11) = false := beq_eq_false_iff_ne.2 h1.1
  have e2 : (op == 6) = false := beq_eq_false_iff_ne.2 h1.2.1
  rw [e1] at H1 H4
  rw [e2] at H2 H4
  have e3 : (op == 8 || (op == 9 || op == 10)) = false := by simp [h1.2.2.1, h1.2.2.2.1, h1.2.2.2.2]
  rw [e3] at H3
  clear e1 e2 e3
  have K0 := Lib.hid h0
  clear h0
  have K1 := Lib.hid h1
  clear h1
  have K3 := Lib.hid h3
  clear h3
  have H0' := Lib.hid H0
  have H1' := Lib.hid H1
  have H2' := Lib.hid H2
  have H3' := Lib.hid H3
  have H4' := Lib.hid H4
  clear H0 H1 H2 H3 H4
  unfold lnv at *
  go_enter Tryz.func79, Tryz.ntmps79
  go_wp2_with fail
  refine (H0'.out _ (HR.out.below (below_al hB _))).mono ?_
  rintro e wk1 ⟨rfl, hb⟩
  have Hl := Lib.hid ((LnBox.at (g := w.heap.size) (by first | rfl | simp) op n r o b 42).below hb)
  replace HC := Lib.hid (RdC.below HC.out ((below_al (Below.refl _ _) _).trans (hb.mono (by simp))))
  replace HA := Lib.hid (CMap.below HA.out ((below_al (Below.refl _ _) _).trans (hb.mono (by simp))))
  replace HD := Lib.hid (CMap.below HD.out ((below_al (Below.refl _ _) _).trans (hb.mono (by simp))))
  replace hB := chain (below_al hB _) hb
  obtain ⟨l0, l1, l2, l3, l4⟩ := Hl.out
  have zl := lt_of_cell l0
  obtain ⟨c0, c1, c2, c3⟩ := HC.out
  go_wp2_with fail
  refine (H1'.out _).mono ?_
  rintro e wk2 ⟨rfl, hb⟩
  clear zl l0 l1 l2 l3 l4 c0 c1 c2 c3
  replace Hl := Lib.hid (Hl.out.below hb)
  replace HC := Lib.hid (RdC.below HC.out hb)
  replace HA := Lib.hid (CMap.below HA.out hb)
  replace HD := Lib.hid (CMap.below HD.out hb)
  replace hB := chain hB hb
  obtain ⟨l0, l1, l2, l3, l4⟩ := Hl.out
  have zl := lt_of_cell l0
  obtain ⟨c0, c1, c2, c3⟩ := HC.out
  go_wp2_with fail
  refine (H2'.out _).mono ?_
  rintro e wk3 ⟨rfl, hb⟩
  clear zl l0 l1 l2 l3 l4 c0 c1 c2 c3
  replace Hl := Lib.hid (Hl.out.below hb)
  replace HC := Lib.hid (RdC.below HC.out hb)
  replace HA := Lib.hid (CMap.below HA.out hb)
  replace HD := Lib.hid (CMap.below HD.out hb)
  replace hB := chain hB hb
  obtain ⟨l0, l1, l2, l3, l4⟩ := Hl.out
  have zl := lt_of_cell l0
  obtain ⟨c0, c1, c2, c3⟩ := HC.out
  go_wp2_with fail
  refine (H3'.out _).mono ?_
  rintro e wk4 ⟨rfl, hb⟩
  clear zl l0 l1 l2 l3 l4 c0 c1 c2 c3
  replace Hl := Lib.hid (Hl.out.below hb)
  replace HC := Lib.hid (RdC.below HC.out hb)
  replace HA := Lib.hid (CMap.below HA.out hb)
  replace HD := Lib.hid (CMap.below HD.out hb)
  replace hB := chain hB hb
  obtain ⟨l0, l1, l2, l3, l4⟩ := Hl.out
  have zl := lt_of_cell l0
  obtain ⟨c0, c1, c2, c3⟩ := HC.out
  go_wp2_with fail
  refine (H4'.out _).mono ?_
  rintro e wk5 ⟨rfl, hb⟩
  clear zl l0 l1 l2 l3 l4 c0 c1 c2 c3
  replace Hl := Lib.hid (Hl.out.below hb)
  replace HC := Lib.hid (RdC.below HC.out hb)
  replace HA := Lib.hid (CMap.below HA.out hb)
  replace HD := Lib.hid (CMap.below HD.out hb)
  replace hB := chain hB hb
  obtain ⟨l0, l1, l2, l3, l4⟩ := Hl.out
  have zl := lt_of_cell l0
  obtain ⟨c0, c1, c2, c3⟩ := HC.out
  go_wp2_with fail
  refine (H1'.out _).mono ?_
  rintro e wk6 ⟨rfl, hb⟩
  clear zl l0 l1 l2 l3 l4 c0 c1 c2 c3
  replace Hl := Lib.hid (Hl.out.below hb)
  replace HC := Lib.hid (RdC.below HC.out hb)
  replace HA := Lib.hid (CMap.below HA.out hb)
  replace HD := Lib.hid (CMap.below HD.out hb)
  replace hB := chain hB hb
  obtain ⟨l0, l1, l2, l3, l4⟩ := Hl.out
  have zl := lt_of_cell l0
  obtain ⟨c0, c1, c2, c3⟩ := HC.out
  go_wp2
  go_ret
  exact ⟨rfl, hB⟩

end Go.Proofs.YtaelfjphgdlbcaaGreatDoor
namespace Go.Proofs.YtaelfjphgdlbcaaGreatDoor
open Go.RowKit Go.WideMaps Go.Maps
set_option linter.unusedVariables false
set_option linter.unusedSimpArgs false
open WordM (L)

/-- The closure's two functions, as values. -/
def fWrong (h : Nat) : Value := .func (.func 79) #[] #[.pointer (some ⟨h, 0, none⟩), .pointer (some ⟨h + 1 + 1 + 1, 0, none⟩), .pointer (some ⟨h + 1, 0, none⟩), .pointer (some ⟨h + 1 + 1, 0, none⟩)]
def fPass (h : Nat) : Value := .func (.func 85) #[] #[.pointer (some ⟨h + 1 + 1 + 1, 0, none⟩), .pointer (some ⟨h + 1 + 1, 0, none⟩), .pointer (some ⟨h, 0, none⟩), .pointer (some ⟨h + 1, 0, none⟩)]
/-- All that a thread's reader holds. -/
structure RdS (w : World) (h ga gb na nb : Nat) (i : Int) (f : Bool) (fa fb : L → Int) (Da Db : MD) : Prop where
  c : RdC w h ga gb i f
  z2 : w.frozen? ⟨h + 1 + 1, 0, none⟩ = false
  z3 : w.frozen? ⟨h + 1 + 1 + 1, 0, none⟩ = false
  a : CMap w ga na fa Da
  b : CMap w gb nb fb Db
  ab : ga < gb
  bh : gb < h
  c4 : w.cell? ⟨h + 1 + 1 + 1 + 1, 0, none⟩ = some (fWrong h)
  c5 : w.cell? ⟨h + 1 + 1 + 1 + 1 + 1, 0, none⟩ = some (fPass h)
section
variable {w w' : World} {h ga gb na nb : Nat} {i : Int} {f : Bool} {fa fb : L → Int} {Da Db : MD}
theorem RdS.below (H : RdS w h ga gb na nb i f fa fb Da Db) (hb : Below w.heap.size w w') : RdS w' h ga gb na nb i f fa fb Da Db :=
  ⟨H.c.below hb, (hb.frozen (p := ⟨h + 1 + 1, 0, none⟩) (lt_of_cell H.c.2.2.1)).trans H.z2, (hb.frozen (p := ⟨h + 1 + 1 + 1, 0, none⟩) (lt_of_cell H.c.2.2.2)).trans H.z3, H.a.below hb, H.b.below hb, H.ab, H.bh, kc hb H.c4, kc hb H.c5⟩
theorem CMap.set {b n : Nat} {g : L → Int} {D : MD} (H : CMap w b n g D) {x : Nat} (hx : b ≠ x) (v : Value) : CMap (w.setCell ⟨x, 0, none⟩ v) b n g D := ⟨H.1.setCell (a := ⟨x, 0, none⟩) hx v, H.2⟩
theorem cell_set {x y j : Nat} {v u : Value} (hne : x ≠ y) (hc : w.cell? ⟨y, j, none⟩ = some u) : (w.setCell ⟨x, 0, none⟩ v).cell? ⟨y, j, none⟩ = some u :=
  (World.cell?_setCell_other _ _ _ _ (fun e => hne (by injection e))).trans hc
theorem RdS.set3 (H : RdS w h ga gb na nb i f fa fb Da Db) (f' : Bool) : RdS (w.setCell ⟨h + 1 + 1 + 1, 0, none⟩ (.bool f')) h ga gb na nb i f' fa fb Da Db := by
  have h1 := H.ab; have h2 := H.bh
  exact ⟨⟨cell_set (by omega) H.c.1, cell_set (by omega) H.c.2.1, cell_set (by omega) H.c.2.2.1, World.cell?_setCell_same _ _ _ H.c.2.2.2⟩, by simpa using H.z2, by simpa using H.z3, H.a.set (by omega) _, H.b.set (by omega) _, h1, h2, cell_set (by omega) H.c4, cell_set (by omega) H.c5⟩
theorem RdS.set2 (H : RdS w h ga gb na nb i f fa fb Da Db) (i' : Int) : RdS (w.setCell ⟨h + 1 + 1, 0, none⟩ (.int .i64 i')) h ga gb na nb i' f fa fb Da Db := by
  have h1 := H.ab; have h2 := H.bh
  exact ⟨⟨cell_set (by omega) H.c.1, cell_set (by omega) H.c.2.1, World.cell?_setCell_same _ _ _ H.c.2.2.1, cell_set (by omega) H.c.2.2.2⟩, by simpa using H.z2, by simpa using H.z3, H.a.set (by omega) _, H.b.set (by omega) _, h1, h2, cell_set (by omega) H.c4, cell_set (by omega) H.c5⟩
theorem cell_grown {x y j : Nat} {u : Value} (hg : w.grownBy w' (some x)) (hne : x ≠ y) (hc : w.cell? ⟨y, j, none⟩ = some u) : w'.cell? ⟨y, j, none⟩ = some u :=
  (World.cell?_of_block (a := ⟨y, j, none⟩) (hg.block y (lt_of_cell hc) (fun e => hne (Option.some.inj e).symm))).trans hc
theorem CMap.grown {b n x : Nat} {g : L → Int} {D : MD} (H : CMap w b n g D) (hg : w.grownBy w' (some x)) (hne : x ≠ b) : CMap w' b n g D := by
  have hl := H.lt
  obtain ⟨⟨es, clock, he, h1, h2, h3⟩, h4⟩ := H
  exact ⟨⟨es, clock, (hg.block b hl (fun e => hne (Option.some.inj e).symm)).trans he, h1, h2, h3⟩, h4⟩
theorem RdS.putA (H : RdS w h ga gb na nb i f fa fb Da Db) {s : L} {x : Int} (hown : w'.ownsMap Tryz.prog 9 (plainElem Tryz.prog 3) ga (na + 1) (Da.put (.string s) (.lit (.int .i64 x)))) (hg : w.grownBy w' (some ga)) :
    RdS w' h ga gb (na + 1) nb i f (fun t => if t = s then x else fa t) fb (Da.put (.string s) (.lit (.int .i64 x))) Db := by
  have h1 := H.ab; have h2 := H.bh
  have fz : ∀ y, y < w.heap.size → y ≠ ga → w'.frozen? ⟨y, 0, none⟩ = w.frozen? ⟨y, 0, none⟩ := fun y hy hne => World.frozen?_of_block (a := ⟨y, 0, none⟩) (hg.block y hy (fun e => hne (Option.some.inj e)))
  exact ⟨⟨cell_grown hg (by omega) H.c.1, cell_grown hg (by omega) H.c.2.1, cell_grown hg (by omega) H.c.2.2.1, cell_grown hg (by omega) H.c.2.2.2⟩, (fz _ (lt_of_cell H.c.2.2.1) (by omega)).trans H.z2, (fz _ (lt_of_cell H.c.2.2.2) (by omega)).trans H.z3,
    H.a.put hown, H.b.grown hg (by omega), h1, h2, cell_grown hg (by omega) H.c4, cell_grown hg (by omega) H.c5⟩
theorem RdS.putB (H : RdS w h ga gb na nb i f fa fb Da Db) {s : L} {x : Int} (hown : w'.ownsMap Tryz.prog 9 (plainElem Tryz.prog 3) gb (nb + 1) (Db.put (.string s) (.lit (.int .i64 x)))) (hg : w.grownBy w' (some gb)) :
    RdS w' h ga gb na (nb + 1) i f fa (fun t => if t = s then x else fb t) Da (Db.put (.string s) (.lit (.int .i64 x))) := by
  have h1 := H.ab; have h2 := H.bh
  have fz : ∀ y, y < w.heap.size → y ≠ gb → w'.frozen? ⟨y, 0, none⟩ = w.frozen? ⟨y, 0, none⟩ := fun y hy hne => World.frozen?_of_block (a := ⟨y, 0, none⟩) (hg.block y hy (fun e => hne (Option.some.inj e)))
  exact ⟨⟨cell_grown hg (by omega) H.c.1, cell_grown hg (by omega) H.c.2.1, cell_grown hg (by omega) H.c.2.2.1, cell_grown hg (by omega) H.c.2.2.2⟩, (fz _ (lt_of_cell H.c.2.2.1) (by omega)).trans H.z2, (fz _ (lt_of_cell H.c.2.2.2) (by omega)).trans H.z3,
    H.a.grown hg (by omega), H.b.put hown, h1, h2, cell_grown hg (by omega) H.c4, cell_grown hg (by omega) H.c5⟩
end
end Go.Proofs.YtaelfjphgdlbcaaGreatDoor
namespace Go.Proofs.YtaelfjphgdlbcaaGreatDoor
open Go.RowKit Go.WideMaps Go.Maps
set_option linter.unusedVariables false
set_option linter.unusedSimpArgs false
open WordM (L)

theorem LnBox.set {w : World} {g x : Nat} {op n : Int} {r o b : ByteArray} (H : LnBox w g op r o b n) (hne : x ≠ g) (v : Value) : LnBox (w.setCell ⟨x, 0, none⟩ v) g op r o b n :=
  ⟨cell_set hne H.1, cell_set hne H.2.1, cell_set hne H.2.2.1, cell_set hne H.2.2.2.1, cell_set hne H.2.2.2.2⟩

set_option maxHeartbeats 4000000 in
set_option maxRecDepth 100000 in
theorem pass_other {h ga gb na nb : Nat} {i : Int} {f : Bool} {fa fb : L → Int} {Da Db : MD} (op n : Int) (r o b : ByteArray) (w : World) (H : RdS w h ga gb na nb i f fa fb Da Db) (hi : NumM.inR (i + 1))
    (h11 : op ≠ 11) (h6 : op ≠ 6) :
    Calls Tryz.prog 85 #[lnv op r o b n, .pointer (some ⟨h + 1 + 1 + 1, 0, none⟩), .pointer (some ⟨h + 1 + 1, 0, none⟩), .pointer (some ⟨h, 0, none⟩), .pointer (some ⟨h + 1, 0, none⟩)] w
      fun e w' => e = .returned (.tuple #[]) ∧ RdS w' h ga gb na nb (i + 1) false fa fb Da Db ∧ Below ga w w' := by
  have e1 : (op == 11) = false := beq_eq_false_iff_ne.2 h11
  have e2 : (op == 6) = false := beq_eq_false_iff_ne.2 h6
  have H1 := fun W => vlabel_any op n r o b W
  have H2 := fun W => vfence_any op n r o b W
  have H4 := fun W => vinstr_any op n r o b W
  rw [e1] at H1 H4
  rw [e2] at H2 H4
  replace H1 := Lib.hid H1
  replace H2 := Lib.hid H2
  replace H4 := Lib.hid H4
  have hwi : wrap64 (i + 1) = i + 1 := NumM.wrap64_inR _ hi
  have hlt : h + 1 + 1 + 1 < w.heap.size := lt_of_cell H.c.2.2.2
  have hga : ga ≤ w.heap.size := by have := H.ab; have := H.bh; omega
  have hgh : ga < h := by have := H.ab; have := H.bh; omega
  have n3 : ¬ (h + 1 + 1 + 1 = w.heap.size) := by omega
  have n2 : ¬ (h + 1 + 1 = w.heap.size) := by omega
  have HS := Lib.hid H
  clear H e1 e2 h11 h6 hi
  unfold lnv at *
  go_enter Tryz.func85, Tryz.ntmps85
  go_wp2_with fail
  refine (H2.out _).mono ?_
  rintro e w1 ⟨rfl, hb⟩
  have Hl := Lib.hid ((LnBox.at (g := w.heap.size) (by first | rfl | simp) op n r o b 42).below hb)
  have HS1 := Lib.hid (HS.out.below ((below_al (Below.refl _ _) _).trans (hb.mono (by simp))))
  have hB := ((below_al (Below.refl w.heap.size w) _).trans (hb.mono (by simp))).mono hga
  obtain ⟨l0, l1, l2, l3, l4⟩ := Hl.out
  have zl := lt_of_cell l0
  obtain ⟨c0, c1, c2, c3⟩ := HS1.out.c
  have y3 := HS1.out.z3
  clear HS
  go_wp2_with fail
  refine (H4.out _).mono ?_
  rintro e w2 ⟨rfl, hb2⟩
  have HS2 := Lib.hid ((HS1.out.set3 false).below hb2)
  replace Hl := Lib.hid ((Hl.out.set n3 (.bool false)).below hb2)
  have hsz := hb2.size
  have hB2 := (hB.setCell (p := ⟨h + 1 + 1 + 1, 0, none⟩) (by show ga ≤ h + 1 + 1 + 1; omega) (.bool false)).trans (hb2.mono (by simp; omega))
  clear zl l0 l1 l2 l3 l4 c0 c1 c2 c3 y3 HS1
  obtain ⟨l0, l1, l2, l3, l4⟩ := Hl.out
  have zl := lt_of_cell l0
  obtain ⟨c0, c1, c2, c3⟩ := HS2.out.c
  have y2 := HS2.out.z2
  go_wp2_with fail
  refine (H1.out _).mono ?_
  rintro e w3 ⟨rfl, hb3⟩
  have HS3 := Lib.hid ((HS2.out.set2 (i + 1)).below hb3)
  have hsz3 := hb3.size
  have hB3 := (hB2.setCell (p := ⟨h + 1 + 1, 0, none⟩) (by show ga ≤ h + 1 + 1; omega) (.int .i64 (i + 1))).trans (hb3.mono (by simp; omega))
  clear zl l0 l1 l2 l3 l4 c0 c1 c2 c3 y2 HS2 Hl
  go_wp2
  go_end0
  exact ⟨rfl, HS3.out, hB3⟩
set_option maxHeartbeats 4000000 in
set_option maxRecDepth 100000 in
theorem pass_fence {h ga gb na nb : Nat} {i : Int} {f : Bool} {fa fb : L → Int} {Da Db : MD} (op n : Int) (r o b : ByteArray) (w : World) (H : RdS w h ga gb na nb i f fa fb Da Db)
    (h6 : op = 6) :
    Calls Tryz.prog 85 #[lnv op r o b n, .pointer (some ⟨h + 1 + 1 + 1, 0, none⟩), .pointer (some ⟨h + 1 + 1, 0, none⟩), .pointer (some ⟨h, 0, none⟩), .pointer (some ⟨h + 1, 0, none⟩)] w
      fun e w' => e = .returned (.tuple #[]) ∧ RdS w' h ga gb na nb i true fa fb Da Db ∧ Below ga w w' := by
  have e1 : (op == 11) = false := by rw [h6]; rfl
  have e2 : (op == 6) = true := by rw [h6]; rfl
  have H1 := fun W => vlabel_any op n r o b W
  have H2 := fun W => vfence_any op n r o b W
  have H4 := fun W => vinstr_any op n r o b W
  rw [e1] at H1 H4
  rw [e2] at H2 H4
  replace H1 := Lib.hid H1
  replace H2 := Lib.hid H2
  replace H4 := Lib.hid H4
  have hlt : h + 1 + 1 + 1 < w.heap.size := lt_of_cell H.c.2.2.2
  have hga : ga ≤ w.heap.size := by have := H.ab; have := H.bh; omega
  have hgh : ga < h := by have := H.ab; have := H.bh; omega
  have n3 : ¬ (h + 1 + 1 + 1 = w.heap.size) := by omega
  have n2 : ¬ (h + 1 + 1 = w.heap.size) := by omega
  have HS := Lib.hid H
  clear H e1 e2 h6
  unfold lnv at *
  go_enter Tryz.func85, Tryz.ntmps85
  go_wp2_with fail
  refine (H2.out _).mono ?_
  rintro e w1 ⟨rfl, hb⟩
  have Hl := Lib.hid ((LnBox.at (g := w.heap.size) (by first | rfl | simp) op n r o b 42).below hb)
  have HS1 := Lib.hid (HS.out.below ((below_al (Below.refl _ _) _).trans (hb.mono (by simp))))
  have hB := ((below_al (Below.refl w.heap.size w) _).trans (hb.mono (by simp))).mono hga
  obtain ⟨l0, l1, l2, l3, l4⟩ := Hl.out
  have zl := lt_of_cell l0
  obtain ⟨c0, c1, c2, c3⟩ := HS1.out.c
  have y3 := HS1.out.z3
  clear HS
  go_wp2_with fail
  refine (H4.out _).mono ?_
  rintro e w2 ⟨rfl, hb2⟩
  have HS2 := Lib.hid ((HS1.out.set3 true).below hb2)
  replace Hl := Lib.hid ((Hl.out.set n3 (.bool true)).below hb2)
  have hsz := hb2.size
  have hB2 := (hB.setCell (p := ⟨h + 1 + 1 + 1, 0, none⟩) (by show ga ≤ h + 1 + 1 + 1; omega) (.bool true)).trans (hb2.mono (by simp; omega))
  clear zl l0 l1 l2 l3 l4 c0 c1 c2 c3 y3 HS1
  obtain ⟨l0, l1, l2, l3, l4⟩ := Hl.out
  have zl := lt_of_cell l0
  obtain ⟨c0, c1, c2, c3⟩ := HS2.out.c
  have y2 := HS2.out.z2
  go_wp2_with fail
  refine (H1.out _).mono ?_
  rintro e w3 ⟨rfl, hb3⟩
  have HS3 := Lib.hid (HS2.out.below hb3)
  have hsz3 := hb3.size
  have hB3 := hB2.trans (hb3.mono (by omega))
  clear zl l0 l1 l2 l3 l4 c0 c1 c2 c3 y2 HS2 Hl
  go_wp2
  go_end0
  exact ⟨rfl, HS3.out, hB3⟩
set_option maxHeartbeats 4000000 in
set_option maxRecDepth 100000 in
theorem pass_label {h ga gb na nb : Nat} {i : Int} {f : Bool} {fa fb : L → Int} {Da Db : MD} (op n : Int) (r o b : ByteArray) (w : World) (H : RdS w h ga gb na nb i f fa fb Da Db)
    (h11 : op = 11) (hbl : b.size ≤ 100000) (hna : na < maxLen) (hnb : nb < maxLen) :
    Calls Tryz.prog 85 #[lnv op r o b n, .pointer (some ⟨h + 1 + 1 + 1, 0, none⟩), .pointer (some ⟨h + 1 + 1, 0, none⟩), .pointer (some ⟨h, 0, none⟩), .pointer (some ⟨h + 1, 0, none⟩)] w
      fun e w' => e = .returned (.tuple #[]) ∧ RdS w' h ga gb (na + 1) (nb + 1) i false (fun t => if t = b.data.toList then wrap64 (fa b.data.toList + 1) else fa t) (fun t => if t = b.data.toList then wrap64 (fb b.data.toList - 1) else fb t) (Da.put (.string b.data.toList) (.lit (.int .i64 (wrap64 (fa b.data.toList + 1))))) (Db.put (.string b.data.toList) (.lit (.int .i64 (wrap64 (fb b.data.toList - 1))))) ∧ Below ga w w' := by
  have e1 : (op == 11) = true := by rw [h11]; rfl
  have e2 : (op == 6) = false := by rw [h11]; rfl
  have H1 := fun W => vlabel_any op n r o b W
  have H2 := fun W => vfence_any op n r o b W
  have H4 := fun W => vinstr_any op n r o b W
  rw [e1] at H1 H4
  rw [e2] at H2 H4
  replace H1 := Lib.hid H1
  replace H2 := Lib.hid H2
  replace H4 := Lib.hid H4
  have hkey := keyOf_string_mk (s := b) Tryz.underlying9 (by unfold maxLen; omega)
  have hlt : h + 1 + 1 + 1 < w.heap.size := lt_of_cell H.c.2.2.2
  have hga : ga ≤ w.heap.size := by have := H.ab; have := H.bh; omega
  have hgh : ga < h := by have := H.ab; have := H.bh; omega
  have n3 : ¬ (h + 1 + 1 + 1 = w.heap.size) := by omega
  have n2 : ¬ (h + 1 + 1 = w.heap.size) := by omega
  have HS := Lib.hid H
  clear H e1 e2 h11
  unfold lnv at *
  go_enter Tryz.func85, Tryz.ntmps85
  go_wp2_with fail
  refine (H2.out _).mono ?_
  rintro e w1 ⟨rfl, hb⟩
  have Hl := Lib.hid ((LnBox.at (g := w.heap.size) (by first | rfl | simp) op n r o b 42).below hb)
  have HS1 := Lib.hid (HS.out.below ((below_al (Below.refl _ _) _).trans (hb.mono (by simp))))
  have hB := ((below_al (Below.refl w.heap.size w) _).trans (hb.mono (by simp))).mono hga
  obtain ⟨l0, l1, l2, l3, l4⟩ := Hl.out
  have zl := lt_of_cell l0
  obtain ⟨c0, c1, c2, c3⟩ := HS1.out.c
  have y3 := HS1.out.z3
  clear HS
  go_wp2_with fail
  refine (H4.out _).mono ?_
  rintro e w2 ⟨rfl, hb2⟩
  have HS2 := Lib.hid ((HS1.out.set3 false).below hb2)
  replace Hl := Lib.hid ((Hl.out.set n3 (.bool false)).below hb2)
  have hsz := hb2.size
  have hB2 := (hB.setCell (p := ⟨h + 1 + 1 + 1, 0, none⟩) (by show ga ≤ h + 1 + 1 + 1; omega) (.bool false)).trans (hb2.mono (by simp; omega))
  clear zl l0 l1 l2 l3 l4 c0 c1 c2 c3 y3 HS1
  obtain ⟨l0, l1, l2, l3, l4⟩ := Hl.out
  have zl := lt_of_cell l0
  obtain ⟨c0, c1, c2, c3⟩ := HS2.out.c
  have y2 := HS2.out.z2
  go_wp2_with fail
  refine (H1.out _).mono ?_
  rintro e w3 ⟨rfl, hb3⟩
  have HS3 := Lib.hid (HS2.out.below hb3)
  replace Hl := Lib.hid (Hl.out.below hb3)
  have hsz3 := hb3.size
  have hB3 := hB2.trans (hb3.mono (by omega))
  clear zl l0 l1 l2 l3 l4 c0 c1 c2 c3 y2 HS2
  obtain ⟨l0, l1, l2, l3, l4⟩ := Hl.out
  have zl := lt_of_cell l0
  obtain ⟨c0, c1, c2, c3⟩ := HS3.out.c
  obtain ⟨ca, hrun, hat, _⟩ := HS3.out.a.1.lookup_int strKey Tryz.underlying80 Tryz.underlying3 (zeroInt _) hkey
  have hca := Lib.hid (HS3.out.a.val hat)
  clear hat
  have hla : ga ≠ w.heap.size := by omega
  have hlb : gb ≠ w.heap.size := by have := HS3.out.bh; omega
  go_wp2_with (first | (at_mapUpdate; refine wpList_mapUpdate_own _ rfl _ _ _ 80 rfl 9 3 strKey Tryz.underlying80 _ ga na _ rfl HS3.out.a.1 hna _ _ _ rfl rfl hkey _ [] (plainElem_int Tryz.underlying3 (wrap64_wf _)) ?_; intro w4 hown4 hg4; have HS4 := Lib.hid (HS3.out.putA hown4 hg4); have l3' := cell_grown hg4 hla l3; obtain ⟨d0, d1, d2, d3⟩ := HS4.out.c; obtain ⟨cb, hrun4, hat4, _⟩ := HS4.out.b.1.lookup_int strKey Tryz.underlying80 Tryz.underlying3 (zeroInt _) hkey; have hcb := Lib.hid (HS4.out.b.val hat4); clear hat4) | (at_mapUpdate; refine wpList_mapUpdate_own _ rfl _ _ _ 80 rfl 9 3 strKey Tryz.underlying80 _ gb nb _ rfl HS4.out.b.1 hnb _ _ _ rfl rfl hkey _ [] (plainElem_int Tryz.underlying3 (wrap64_wf _)) ?_; intro w5 hown5 hg5; have HS5 := Lib.hid (HS4.out.putB hown5 hg5)))
  have hB4 := hB3.grown hg4 (by omega) (fun j hj => by obtain rfl := Option.some.inj hj; exact Nat.le_refl _)
  have hs4 := hg4.size
  have hab := HS3.out.ab
  have hB5 := hB4.grown hg5 (by omega) (fun j hj => by obtain rfl := Option.some.inj hj; omega)
  go_end0
  refine ⟨rfl, ?_, hB5⟩
  rw [← hca.out, ← hcb.out]
  exact HS5.out
end Go.Proofs.YtaelfjphgdlbcaaGreatDoor
namespace Go.Proofs.YtaelfjphgdlbcaaGreatDoor
open Go.RowKit Go.WideMaps Go.Maps
set_option linter.unusedVariables false
set_option linter.unusedSimpArgs false
open WordM (L)

set_option maxHeartbeats 4000000 in
set_option maxRecDepth 100000 in
theorem read_step {h ga gb na nb : Nat} {i : Int} {f : Bool} {fa fb : L → Int} {Da Db : MD} (op n : Int) (r o b : ByteArray) (code : Int) (Q : World → Prop) (w : World) (H : RdS w h ga gb na nb i f fa fb Da Db)
    (HW : ∀ W, Below w.heap.size w W → Calls Tryz.prog 79 #[lnv op r o b n, .pointer (some ⟨h, 0, none⟩), .pointer (some ⟨h + 1 + 1 + 1, 0, none⟩), .pointer (some ⟨h + 1, 0, none⟩), .pointer (some ⟨h + 1 + 1, 0, none⟩)] W fun e w' => e = .returned (.int .i64 code) ∧ Below W.heap.size W w')
    (HP : ∀ W, Below w.heap.size w W → Calls Tryz.prog 85 #[lnv op r o b n, .pointer (some ⟨h + 1 + 1 + 1, 0, none⟩), .pointer (some ⟨h + 1 + 1, 0, none⟩), .pointer (some ⟨h, 0, none⟩), .pointer (some ⟨h + 1, 0, none⟩)] W fun e w' => e = .returned (.tuple #[]) ∧ Q w' ∧ Below ga W w') :
    Calls Tryz.prog 86 #[lnv op r o b n, .pointer (some ⟨h + 1 + 1 + 1 + 1, 0, none⟩), .pointer (some ⟨h + 1 + 1 + 1 + 1 + 1, 0, none⟩)] w
      fun e w' => e = .returned (.int .i64 code) ∧ Q w' ∧ Below ga w w' := by
  have hga : ga ≤ w.heap.size := by have := H.ab; have := H.bh; have := lt_of_cell H.c.1; omega
  have c4 := H.c4
  have c5 := H.c5
  unfold fWrong at c4
  unfold fPass at c5
  have z4 := lt_of_cell c4
  have z5 := lt_of_cell c5
  have K1 := Lib.hid HW
  have K2 := Lib.hid HP
  clear HW HP H
  unfold lnv at *
  go_enter Tryz.func86, Tryz.ntmps86
  go_wp2_with fail
  have hB := below_al (Below.refl w.heap.size w) (.cells #[.int .i64 op, .string r, .string o, .string b, .int .i64 n] 42)
  refine (K1.out _ hB).mono ?_
  rintro e w1 ⟨rfl, hb⟩
  have Hl := Lib.hid ((LnBox.at (g := w.heap.size) (by first | rfl | simp) op n r o b 42).below hb)
  have hB1 := hB.trans (hb.mono (by simp))
  replace c5 := (hB1.cell (p := ⟨h + 1 + 1 + 1 + 1 + 1, 0, none⟩) z5).trans c5
  obtain ⟨l0, l1, l2, l3, l4⟩ := Hl.out
  have zl := lt_of_cell l0
  go_wp2_with fail
  refine (K2.out _ hB1).mono ?_
  rintro e w2 ⟨rfl, hQ, hb2⟩
  have HQ := Lib.hid hQ
  have hB2 := (hB1.mono hga).trans hb2
  clear hQ
  go_wp2
  go_ret
  exact ⟨rfl, HQ.out, hB2⟩
end Go.Proofs.YtaelfjphgdlbcaaGreatDoor
namespace Go.Proofs.YtaelfjphgdlbcaaGreatDoor
open Go.RowKit Go.WideMaps Go.Maps
set_option linter.unusedVariables false
set_option linter.unusedSimpArgs false
open WordM (L)
open VM

/-- A line as a value. -/
abbrev lnW (l : OpsM.Ln) : Value := lnv l.op ⟨l.reg.toArray⟩ ⟨l.loc.toArray⟩ ⟨l.label.toArray⟩ l.n

def RdK (w : World) (h ga gb : Nat) (ls : List OpsM.Ln) (k : Nat) : Prop :=
  ∃ (na nb : Nat) (fa fb : L → Int) (Da Db : MD), RdS w h ga gb na nb (cI (ls.take k) : Nat) (fenB ls k) fa fb Da Db ∧ na ≤ k ∧ nb ≤ ls.length + k ∧ (∀ s, fa s = (lcnt (ls.take k) s : Nat)) ∧ (∀ s, fb s = (lcnt (ls.drop k) s : Nat)) ∧
    Maps.size Da = cM (ls.take k) ∧ (∀ s, Maps.has Da (.string s) = true ↔ 0 < lcnt (ls.take k) s) ∧ Maps.Tidy Da
theorem RdK.below {w w' : World} {h ga gb : Nat} {ls : List OpsM.Ln} {k : Nat} (H : RdK w h ga gb ls k) (hb : Below w.heap.size w w') : RdK w' h ga gb ls k := by
  obtain ⟨na, nb, fa, fb, Da, Db, hS, H⟩ := H
  exact ⟨na, nb, fa, fb, Da, Db, hS.below hb, H⟩
theorem RdK.start {w : World} {h ga gb : Nat} {ls : List OpsM.Ln} {Db : MD} (H : RdS w h ga gb 0 ls.length 0 false (fun _ => 0) (fun s => (lcnt ls s : Int)) (.map []) Db) : RdK w h ga gb ls 0 :=
  ⟨0, ls.length, _, _, _, Db, H, Nat.le_refl _, Nat.le_refl _, fun s => rfl, fun s => rfl, rfl, fun s => by simp [Maps.has, lcnt], Maps.tidy_empty⟩

theorem RdS.cast {w : World} {h ga gb na nb : Nat} {i j : Int} {f g : Bool} {fa fb : L → Int} {Da Db : MD} (H : RdS w h ga gb na nb i f fa fb Da Db) (hi : j = i) (hf : g = f) : RdS w h ga gb na nb j g fa fb Da Db := by
  subst hi; subst hf; exact H
theorem jmpB_iff (x : OpsM.Ln) : jmpB x = true ↔ x.op = 8 ∨ x.op = 9 ∨ x.op = 10 := by
  unfold jmpB; simp; omega
theorem insB_iff (x : OpsM.Ln) : insB x = true ↔ x.op ≠ 6 ∧ x.op ≠ 11 := by
  unfold insB; simp
theorem wrong_k {h ga gb k : Nat} {ls : List OpsM.Ln} (w : World) (hr : Regs w) (H : RdK w h ga gb ls k) (hk : k < ls.length) (hb : (ls[k]).label.length ≤ 100000) :
    Calls Tryz.prog 79 #[lnW ls[k], .pointer (some ⟨h, 0, none⟩), .pointer (some ⟨h + 1 + 1 + 1, 0, none⟩), .pointer (some ⟨h + 1, 0, none⟩), .pointer (some ⟨h + 1 + 1, 0, none⟩)] w
      fun e w' => e = .returned (.int .i64 (lnC ls k)) ∧ Below w.heap.size w w' := by
  obtain ⟨na, nb, fa, fb, Da, Db, hS, _, _, hfa, hfb, hsz, _, _⟩ := H
  rw [lnC_take ls k hk]
  have hd := lcnt_drop ls k hk
  obtain ⟨x, hx⟩ : ∃ x, x = ls[k] := ⟨_, rfl⟩
  rw [← hx] at hb hd ⊢
  have hbl : (⟨x.label.toArray⟩ : ByteArray).size ≤ 100000 := by rw [Lib.size_eq]; exact hb
  unfold lineC
  by_cases h0 : OpsM.rightL x = false
  · rw [if_pos h0]; exact wrong_a _ _ _ _ _ w hr hS.c hS.a hS.b hbl h0
  rw [if_neg h0]
  have h0' : OpsM.rightL x = true := by simpa using h0
  by_cases h11 : x.op = 11
  · by_cases hl : 0 < lcnt (ls.take k) x.label
    · rw [if_pos ⟨h11, hl⟩]
      exact wrong_b1 _ _ _ _ _ w hr hS.c hS.a hS.b hbl h0' h11 (by rw [hfa]; exact Int.ofNat_lt.2 hl)
    · have hl' : ¬ 0 < fa (⟨x.label.toArray⟩ : ByteArray).data.toList := by rw [hfa]; exact fun c => hl (Int.ofNat_lt.1 c)
      have hj : ¬ (jmpB x = true) := by rw [jmpB_iff]; omega
      have hi : ¬ (insB x = true) := by rw [insB_iff]; omega
      rw [if_neg (fun c => hl c.2), if_neg (fun c => by have := c.1; omega), if_neg (fun c => hj c.1)]
      by_cases h8 : 8 ≤ cM (ls.take k)
      · rw [if_pos (Or.inr ⟨h11, h8⟩)]
        exact wrong_b2 _ _ _ _ _ w hr hS.c hS.a hS.b hbl h0' h11 hl' (by rw [hsz]; exact h8)
      · rw [if_neg (fun c => c.elim (fun c => hi c.1) (fun c => h8 c.2))]
        exact wrong_b3 _ _ _ _ _ w hr hS.c hS.a hS.b hbl h0' h11 hl' (by rw [hsz]; exact h8)
  rw [if_neg (fun c => h11 c.1)]
  by_cases h6 : x.op = 6
  · by_cases hf : fenB ls k = true
    · rw [if_pos ⟨h6, hf⟩]
      exact wrong_c1 _ _ _ _ _ w hr hS.c hS.a hS.b hbl h0' h6 hf
    · have hj : ¬ (jmpB x = true) := by rw [jmpB_iff]; omega
      have hi : ¬ (insB x = true) := by rw [insB_iff]; omega
      rw [if_neg (fun c => hf c.2), if_neg (fun c => hj c.1), if_neg (fun c => c.elim (fun c => hi c.1) (fun c => h11 c.1))]
      exact wrong_c2 _ _ _ _ _ w hr hS.c hS.a hS.b hbl h0' h6 (by simpa using hf)
  rw [if_neg (fun c => h6 c.1)]
  have hi : insB x = true := by rw [insB_iff]; exact ⟨h6, h11⟩
  have hd' : ∀ s, lcnt (ls.drop k) s = lcnt (ls.drop (k + 1)) s := fun s => by rw [hd s, if_neg (fun c => h11 c.1)]; omega
  by_cases hj : jmpB x = true
  · have hj' := (jmpB_iff x).1 hj
    by_cases hz : lcnt (ls.drop (k + 1)) x.label = 0
    · rw [if_pos ⟨hj, hz⟩]
      exact wrong_d1 _ _ _ _ _ w hr hS.c hS.a hS.b hbl h0' hj' (by rw [hfb, hd']; exact congrArg Int.ofNat hz)
    · have hz' : fb (⟨x.label.toArray⟩ : ByteArray).data.toList ≠ 0 := by rw [hfb, hd']; exact fun c => hz (Int.ofNat.inj c)
      rw [if_neg (fun c => hz c.2)]
      by_cases h8 : 8 ≤ cI (ls.take k)
      · rw [if_pos (Or.inl ⟨hi, h8⟩)]
        exact wrong_d2 _ _ _ _ _ w hr hS.c hS.a hS.b hbl h0' hj' hz' (by omega)
      · rw [if_neg (fun c => c.elim (fun c => h8 c.2) (fun c => h11 c.1))]
        exact wrong_d3 _ _ _ _ _ w hr hS.c hS.a hS.b hbl h0' hj' hz' (by omega)
  · have hj' : ¬ (x.op = 8 ∨ x.op = 9 ∨ x.op = 10) := fun c => hj ((jmpB_iff x).2 c)
    rw [if_neg (fun c => hj c.1)]
    by_cases h8 : 8 ≤ cI (ls.take k)
    · rw [if_pos (Or.inl ⟨hi, h8⟩)]
      exact wrong_e1 _ _ _ _ _ w hr hS.c hS.a hS.b hbl h0' ⟨h11, h6, fun c => hj' (Or.inl c), fun c => hj' (Or.inr (Or.inl c)), fun c => hj' (Or.inr (Or.inr c))⟩ (by omega)
    · rw [if_neg (fun c => c.elim (fun c => h8 c.2) (fun c => h11 c.1))]
      exact wrong_e2 _ _ _ _ _ w hr hS.c hS.a hS.b hbl h0' ⟨h11, h6, fun c => hj' (Or.inl c), fun c => hj' (Or.inr (Or.inl c)), fun c => hj' (Or.inr (Or.inr c))⟩ (by omega)

theorem fenB_succ (ls : List OpsM.Ln) (k : Nat) (hk : k < ls.length) : fenB ls (k + 1) = (ls[k].op == 6) := by
  show (match ls[k]? with | some l => l.op == 6 | none => false) = _
  rw [List.getElem?_eq_getElem hk]
theorem lnC_lab {ls : List OpsM.Ln} {k : Nat} (hk : k < ls.length) (h : lnC ls k = 0) (h11 : ls[k].op = 11) : lcnt (ls.take k) ls[k].label = 0 := by
  rw [lnC_take ls k hk] at h
  unfold lineC at h
  by_cases h0 : OpsM.rightL ls[k] = false
  · rw [if_pos h0] at h; cases h
  · rw [if_neg h0] at h
    by_cases hl : 0 < lcnt (ls.take k) ls[k].label
    · rw [if_pos ⟨h11, hl⟩] at h; cases h
    · omega
theorem pass_k {h ga gb k : Nat} {ls : List OpsM.Ln} (w : World) (H : RdK w h ga gb ls k) (hk : k < ls.length) (hb : (ls[k]).label.length ≤ 100000) (hn : ls.length ≤ 100000) :
    Calls Tryz.prog 85 #[lnW ls[k], .pointer (some ⟨h + 1 + 1 + 1, 0, none⟩), .pointer (some ⟨h + 1 + 1, 0, none⟩), .pointer (some ⟨h, 0, none⟩), .pointer (some ⟨h + 1, 0, none⟩)] w
      fun e w' => e = .returned (.tuple #[]) ∧ (lnC ls k = 0 → RdK w' h ga gb ls (k + 1)) ∧ Below ga w w' := by
  obtain ⟨na, nb, fa, fb, Da, Db, hS, hna, hnb, hfa, hfb, hsz, hhas, htd⟩ := H
  have hd := lcnt_drop ls k hk
  have ht := lcnt_take ls k hk
  have hI := cI_take ls k hk
  have hM := cM_take ls k hk
  have hF := fenB_succ ls k hk
  have hL := @lnC_lab ls k hk
  have hIl := cI_le ls k
  have hll : ∀ s, lcnt (ls.take k) s ≤ 100000 := fun s => Nat.le_trans (lcnt_le _ _) (by rw [List.length_take]; omega)
  have hdl : ∀ s, lcnt (ls.drop k) s ≤ 100000 := fun s => Nat.le_trans (lcnt_le _ _) (by rw [List.length_drop]; omega)
  obtain ⟨x, hx⟩ : ∃ x, x = ls[k] := ⟨_, rfl⟩
  rw [← hx] at hb hF hL ⊢
  simp only [← hx] at hd ht hI hM
  have hbl : (⟨x.label.toArray⟩ : ByteArray).size ≤ 100000 := by rw [Lib.size_eq]; exact hb
  by_cases h11 : x.op = 11
  · refine (pass_label _ _ _ _ _ w hS h11 hbl (by unfold maxLen; omega) (by unfold maxLen; omega)).mono ?_
    rintro e w' ⟨he, hS', hB⟩
    have hmx : lcnt (ls.drop k) x.label ≥ 1 := by rw [hd, if_pos ⟨h11, rfl⟩]; omega
    have h1 : insB x = false := by unfold insB; rw [h11]; rfl
    have hS2 := RdS.cast hS' (j := (cI (ls.take (k + 1)) : Nat)) (g := fenB ls (k + 1)) (by rw [hI, h1]; rfl) (by rw [hF, h11]; rfl)
    refine ⟨he, fun hz => ⟨na + 1, nb + 1, _, _, _, _, hS2, by omega, by omega, fun s => ?_, fun s => ?_, ?_, fun s => ?_, htd.put (k := .string x.label) (by trivial) _⟩, hB⟩
    · show (if s = x.label then wrap64 (fa x.label + 1) else fa s) = _
      rw [hfa, hfa, ht s]
      have := hll x.label
      by_cases e : s = x.label
      · subst e
        rw [if_pos rfl, if_pos ⟨h11, rfl⟩, NumM.wrap64_inR _ (by unfold NumM.inR; omega)]; rfl
      · rw [if_neg e, if_neg (fun c => e c.2.symm)]; rfl
    · show (if s = x.label then wrap64 (fb x.label - 1) else fb s) = _
      rw [hfb, hfb]
      have := hdl x.label
      by_cases e : s = x.label
      · subst e
        rw [if_pos rfl, NumM.wrap64_inR _ (by unfold NumM.inR; omega), hd x.label, if_pos ⟨h11, rfl⟩]
        omega
      · rw [if_neg e, hd s, if_neg (fun c => e c.2.symm)]; omega
    · rw [Maps.size_put htd, hM, hsz]
      have hno : Maps.has Da (.string x.label) = false := by
        have := hL hz h11
        cases c : Maps.has Da (.string x.label)
        · rfl
        · have := (hhas _).1 c; omega
      have hlb : labB x = true := by unfold labB; rw [h11]; rfl
      show (if Maps.has Da (.string x.label) = true then _ else _) = _
      rw [hno, hlb]; rfl
    · show Maps.has (Da.put (.string x.label) _) _ = true ↔ _
      rw [ht s]
      by_cases e : s = x.label
      · subst e
        rw [Maps.has_put_same htd.isMap (by trivial), if_pos ⟨h11, rfl⟩]
        simp
      · rw [Maps.has_put_other (fun c => e (by injection c)), hhas s, if_neg (fun c => e c.2.symm)]; rfl
  have hd' : ∀ s, lcnt (ls.drop (k + 1)) s = lcnt (ls.drop k) s := fun s => by rw [hd s, if_neg (fun c => h11 c.1)]; omega
  have ht' : ∀ s, lcnt (ls.take (k + 1)) s = lcnt (ls.take k) s := fun s => by rw [ht s, if_neg (fun c => h11 c.1)]; rfl
  have hM' : cM (ls.take (k + 1)) = cM (ls.take k) := by
    rw [hM]
    have : labB x = false := by unfold labB; simpa using h11
    rw [this]; rfl
  by_cases h6 : x.op = 6
  · refine (pass_fence _ _ _ _ _ w hS h6).mono ?_
    rintro e w' ⟨he, hS', hB⟩
    refine ⟨he, fun hz => ⟨na, nb, fa, fb, Da, Db, ?_, by omega, by omega, fun s => by rw [ht' s]; exact hfa s, fun s => by rw [hd' s]; exact hfb s, by rw [hM']; exact hsz, fun s => by rw [ht' s]; exact hhas s, htd⟩, hB⟩
    rw [hI, hF, h6]
    have : insB x = false := by unfold insB; rw [h6]; rfl
    rw [this]
    exact hS'
  · refine (pass_other _ _ _ _ _ w hS (by unfold NumM.inR; omega) h11 h6).mono ?_
    rintro e w' ⟨he, hS', hB⟩
    refine ⟨he, fun hz => ⟨na, nb, fa, fb, Da, Db, ?_, by omega, by omega, fun s => by rw [ht' s]; exact hfa s, fun s => by rw [hd' s]; exact hfb s, by rw [hM']; exact hsz, fun s => by rw [ht' s]; exact hhas s, htd⟩, hB⟩
    have h1 : insB x = true := by rw [insB_iff]; exact ⟨h6, h11⟩
    have h2 : (x.op == 6) = false := by simpa using h6
    rw [hI, hF, h1, h2]
    exact hS'
/-- THE READER AT ONE LINE: what is wrong with it; if nothing is, it goes on. -/
theorem read_k {h ga gb k : Nat} {ls : List OpsM.Ln} (w : World) (hr : Regs w) (H : RdK w h ga gb ls k) (hk : k < ls.length) (hb : (ls[k]).label.length ≤ 100000) (hn : ls.length ≤ 100000) :
    Calls Tryz.prog 86 #[lnW ls[k], .pointer (some ⟨h + 1 + 1 + 1 + 1, 0, none⟩), .pointer (some ⟨h + 1 + 1 + 1 + 1 + 1, 0, none⟩)] w
      fun e w' => e = .returned (.int .i64 (lnC ls k)) ∧ (lnC ls k = 0 → RdK w' h ga gb ls (k + 1)) ∧ Below ga w w' := by
  obtain ⟨na, nb, fa, fb, Da, Db, hS, _⟩ := id H
  exact read_step _ _ _ _ _ _ _ w hS (fun W hW => wrong_k W (hr.below hW) (H.below hW) hk hb) (fun W hW => pass_k W (H.below hW) hk hb hn)
end Go.Proofs.YtaelfjphgdlbcaaGreatDoor
namespace Go.Proofs.YtaelfjphgdlbcaaGreatDoor
open Go.RowKit Go.WideMaps Go.Maps
set_option linter.unusedVariables false
set_option linter.unusedSimpArgs false
open WordM (L)

set_option maxHeartbeats 2000000 in
set_option maxRecDepth 100000 in
theorem reader_any {B : Nat} {v : Value} {ls : List OpsM.Ln} (w : World) (h : Lns B w v ls) (hBB : B ≤ w.heap.size) (hs : ∀ l ∈ ls, l.label.length ≤ 100000) :
    Calls Tryz.prog 60 #[v] w fun e w' => ∃ h ga gb Db, e = .returned (.func (.func 86) #[] #[.pointer (some ⟨h + 1 + 1 + 1 + 1, 0, none⟩), .pointer (some ⟨h + 1 + 1 + 1 + 1 + 1, 0, none⟩)]) ∧
      w.heap.size ≤ ga ∧ RdS w' h ga gb 0 ls.length 0 false (fun _ => 0) (fun s => (lcnt ls s : Int)) (.map []) Db ∧ Below w.heap.size w w' := by
  have hmm := @run_makeMap Tryz.prog
  have HL := Lib.hid (fun W (h : Lns B W v ls) (hb : B ≤ W.heap.size) => vlabels_any W h hb hs)
  have HV := Lib.hid h
  have hst : ∀ (W : World) (a : Addr) (f : Fn) (x y : Array Value), (store a (.func f x y)).run Tryz.prog W = _ := fun W a f x y => run_store Tryz.prog W a (.func f x y) _ rfl
  clear h
  go_enter Tryz.func60, Tryz.ntmps60
  go_wp2_with fail
  have hB := (Below.refl w.heap.size w).alloc (Nat.le_refl _) (.map #[] 0)
  refine (HL.out _ (HV.out.below (hB.mono hBB)) (by simp; omega)).mono ?_
  rintro e w1 ⟨rfl, ⟨D, hD⟩, hb⟩
  have hsz := hb.size
  simp at hsz
  have HA0 := CMap.below (CMap.made w) hb
  have hBw := hB.trans (hb.mono (by simp))
  have X : RdS ((((((w1.alloc (.cells #[.map (some w.heap.size)] 80)).alloc (.cells #[.map (some (w.heap.size + 1))] 80)).alloc (.cells #[.int .i64 0] 3)).alloc (.cells #[.bool false] 4)).alloc (.cells #[fWrong w1.heap.size] 117)).alloc (.cells #[fPass w1.heap.size] 148)) w1.heap.size w.heap.size (w.heap.size + 1) 0 ls.length 0 false (fun _ => 0) (fun s => (lcnt ls s : Int)) (.map []) D := by
    have hal : Below w1.heap.size w1 ((((((w1.alloc (.cells #[.map (some w.heap.size)] 80)).alloc (.cells #[.map (some (w.heap.size + 1))] 80)).alloc (.cells #[.int .i64 0] 3)).alloc (.cells #[.bool false] 4)).alloc (.cells #[fWrong w1.heap.size] 117)).alloc (.cells #[fPass w1.heap.size] 148)) := ((((((Below.refl _ w1).alloc (Nat.le_refl _) _).alloc (by simp) _).alloc (by simp; omega) _).alloc (by simp; omega) _).alloc (by simp; omega) _).alloc (by simp; omega) _
    refine ⟨⟨?_, ?_, ?_, ?_⟩, ?_, ?_, HA0.below hal, (by simpa using hD : CMap w1 (w.heap.size + 1) ls.length (fun s => (lcnt ls s : Int)) D).below hal, by omega, (by have := hD.lt; simp at this; omega), ?_, ?_⟩
    all_goals simp [go_sem]
    all_goals omega
  have HX := Lib.hid X
  have HB := Lib.hid (((((((hBw.alloc hBw.size _).alloc (by have := hBw.size; simp; omega) _).alloc (by have := hBw.size; simp; omega) _).alloc (by have := hBw.size; simp; omega) _).alloc (by have := hBw.size; simp; omega) _).alloc (by have := hBw.size; simp; omega) _) : Below w.heap.size w ((((((w1.alloc (.cells #[.map (some w.heap.size)] 80)).alloc (.cells #[.map (some (w.heap.size + 1))] 80)).alloc (.cells #[.int .i64 0] 3)).alloc (.cells #[.bool false] 4)).alloc (.cells #[fWrong w1.heap.size] 117)).alloc (.cells #[fPass w1.heap.size] 148)))
  clear X HA0 hBw hsz hD
  go_wp2
  go_ret
  exact ⟨w1.heap.size, w.heap.size, w.heap.size + 1, D, rfl, Nat.le_refl _, HX.out, HB.out⟩
end Go.Proofs.YtaelfjphgdlbcaaGreatDoor
