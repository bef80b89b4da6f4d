/-
  OpsZero, as a walk over any world that holds the registers: it returns true, part 1.
-/
import Derived.Test.YtgfhigcmcanbaaaDoorLawL
import Derived.Test.YtgfhigcmcanbaaaDoorLawZM
import Derived.Deep.DeepCutAuto
namespace Go.Proofs.YtgfhigcmcanbaaaDoor
open Go.RowKit
set_option linter.unusedVariables false
open WordM (L)

set_option maxHeartbeats 8000000 in
set_option maxRecDepth 100000 in
theorem zero_in (op n n2 op2 : Int) (r o b s : ByteArray) (w : World) (hr : Regs w) (h1 : 1 ≤ op2) (h2 : op2 ≤ 11) (hgl : (decide (1000 < r.size) || (decide (1000 < o.size) || decide (1000 < b.size))) = false) (hs1 : s.size ≤ 1000) (hs : s.data.toList ≠ []) (hn2 : n2 ≠ 0) (hrl : OpsM.right op r.data.toList o.data.toList b.data.toList n = true) :
    Calls Tryd.prog 7 #[lnv op r o b n, .string s, .int .i64 n2, .int .i64 op2] w fun e w' => e = .returned (.bool true) ∧ Below w.heap.size w w' := by
  have HR := Lib.hid hr
  have HH := Lib.hid (fun W h => head_any W h)
  have HL := Lib.hid (fun W => greatline_any op n r o b W)
  have HRl := Lib.hid (fun W h => right_any op n r o b W h)
  have hB := Below.refl w.heap.size w
  clear hr

  rw [hgl] at HL
  clear hgl
  have q1 : decide ((1000 : Int) < (s.size : Int)) = false := decide_eq_false (by omega)
  have q2 : ¬ s.toList = [] := by rw [Lib.toList_data]; exact hs
  have q3 : (s.toList == []) = false := by simpa using q2
  have q4 : s.toList.isEmpty = false := by simpa using q2
  have q5 : (n2 == 0) = false := beq_eq_false_iff_ne.2 hn2
  have HRd := fun W h => right_any op n2 r o b W h
  rw [numB_n hrl hn2] at HRd
  rw [hrl] at HRl
  have q6 : decide (1 ≤ op2) = true := decide_eq_true h1
  have q7 : decide (op2 ≤ 11) = true := decide_eq_true h2
  clear h1 h2
  rcases right_split hrl with ⟨ho | ho, x1, x2, x3⟩ | ⟨ho, x1, x2, x3, x4⟩ | ⟨ho, x1, x2, x3⟩ | ⟨ho, x1, x2, x3, x4⟩ | ⟨ho, x1, x2, x3, x4⟩
  · skip
    have mr : ¬ r.toList = [] := by rw [Lib.toList_data]; exact (fun e => by rw [e, regB_nil] at x1; cases x1)
    have kr : (r.toList == []) = false := by simpa using mr
    have jr : r.toList.isEmpty = false := by simpa using mr
    have mo : o.toList = [] := by rw [Lib.toList_data]; exact x2
    have mb : b.toList = [] := by rw [Lib.toList_data]; exact x3
    have wo : o.data.toList = [] := by rw [← Lib.toList_data]; exact mo
    have po := hrl
    rw [wo] at po
    have HRb := fun W h => right_any op n r s b W h
    rw [zero_loc (op := op) (n := n) (r := r.data.toList) (b := b.data.toList) (s := s.data.toList) (po) hs] at HRb
    have wb : b.data.toList = [] := by rw [← Lib.toList_data]; exact mb
    have pb := hrl
    rw [wb] at pb
    have HRc := fun W h => right_any op n r o s W h
    rw [zero_label (op := op) (n := n) (r := r.data.toList) (o := o.data.toList) (s := s.data.toList) (pb) hs] at HRc
    have hnb : numB op = true := by unfold numB; rw [ho]; rfl
    rw [hnb] at HRd
    have g1 : (op == 1) = true := by rw [ho]; rfl
    have g4 : (op == 4) = false := by rw [ho]; rfl
    have g7 : (op == 7) = false := by rw [ho]; rfl
    have HRb' := Lib.hid HRb
    have HRc' := Lib.hid HRc
    have HRd' := Lib.hid HRd
    clear HRd hnb hrl hs hn2 ho x1 x2 x3 HRb wo po HRc wb pb
    unfold lnv at *
    go_enter Tryd.func7, Tryd.ntmps7
    go_wp2_with fail
    refine (HH.out _ (HR.out.below (below_al hB _))).mono ?_
    rintro e wk1 ⟨rfl, hb⟩
    have Hl := Lib.hid ((LnBox.at (g := w.heap.size) (by first | rfl | simp) op n r o b 23).below hb)
    replace hB := chain (below_al hB _) hb
    obtain ⟨l0, l1, l2, l3, l4⟩ := Hl.out
    have zl := lt_of_cell l0
    go_wp2_with fail
    refine (HL.out _).mono ?_
    rintro e wk2 ⟨rfl, hb⟩
    clear zl l0 l1 l2 l3 l4
    replace Hl := Lib.hid (Hl.out.below hb)
    replace hB := chain hB hb
    obtain ⟨l0, l1, l2, l3, l4⟩ := Hl.out
    have zl := lt_of_cell l0
    go_wp2_with fail
    refine (HRl.out _ (HR.out.below hB)).mono ?_
    rintro e wk3 ⟨rfl, hb⟩
    clear zl l0 l1 l2 l3 l4
    replace Hl := Lib.hid (Hl.out.below hb)
    replace hB := chain hB hb
    obtain ⟨l0, l1, l2, l3, l4⟩ := Hl.out
    have zl := lt_of_cell l0
    go_upto_region 10 with (fail)
    clear zl l0 l1 l2 l3 l4
    have Bl := ((Hl.out.alloc (.cells #[.int .i64 op, .string s, .string o, .string b, .int .i64 n] 23)).alloc (.cells #[.int .i64 op, .string r, .string s, .string b, .int .i64 n] 23)).alloc (.cells #[.int .i64 op, .string r, .string o, .string s, .int .i64 n] 23)
    have Ba := ((LnBox.at (w := wk3) (g := wk3.heap.size) rfl op n s o b 23).alloc (.cells #[.int .i64 op, .string r, .string s, .string b, .int .i64 n] 23)).alloc (.cells #[.int .i64 op, .string r, .string o, .string s, .int .i64 n] 23)
    have Bb := (LnBox.at (w := wk3.alloc (.cells #[.int .i64 op, .string s, .string o, .string b, .int .i64 n] 23)) (g := wk3.heap.size + 1) (by simp) op n r s b 23).alloc (.cells #[.int .i64 op, .string r, .string o, .string s, .int .i64 n] 23)
    have Bc := LnBox.at (w := (wk3.alloc (.cells #[.int .i64 op, .string s, .string o, .string b, .int .i64 n] 23)).alloc (.cells #[.int .i64 op, .string r, .string s, .string b, .int .i64 n] 23)) (g := wk3.heap.size + 1 + 1) (by simp) op n r o s 23
    have hB3 := below_al (below_al (below_al hB (.cells #[.int .i64 op, .string s, .string o, .string b, .int .i64 n] 23)) (.cells #[.int .i64 op, .string r, .string s, .string b, .int .i64 n] 23)) (.cells #[.int .i64 op, .string r, .string o, .string s, .int .i64 n] 23)
    clear hB Hl
    generalize hW3 : (((wk3.alloc (.cells #[.int .i64 op, .string s, .string o, .string b, .int .i64 n] 23)).alloc (.cells #[.int .i64 op, .string r, .string s, .string b, .int .i64 n] 23)).alloc (.cells #[.int .i64 op, .string r, .string o, .string s, .int .i64 n] 23)) = W3 at *
    clear hW3
    have hB := hB3
    have Hl := Lib.hid Bl
    have Hxa := Lib.hid Ba
    have Hxb := Lib.hid Bb
    have Hxc := Lib.hid Bc
    clear Bl Ba Bb Bc hB3
    obtain ⟨l0, l1, l2, l3, l4⟩ := Hl.out
    have zl := lt_of_cell l0
    obtain ⟨xa0, xa1, xa2, xa3, xa4⟩ := Hxa.out
    have zxa := lt_of_cell xa0
    obtain ⟨xb0, xb1, xb2, xb3, xb4⟩ := Hxb.out
    have zxb := lt_of_cell xb0
    obtain ⟨xc0, xc1, xc2, xc3, xc4⟩ := Hxc.out
    have zxc := lt_of_cell xc0
    go_wp2_with fail
    refine (HRb'.out _ (HR.out.below (below_al (below_al hB _) _))).mono ?_
    rintro e wk4 ⟨rfl, hb⟩
    clear zl l0 l1 l2 l3 l4
    clear zxa xa0 xa1 xa2 xa3 xa4
    clear zxb xb0 xb1 xb2 xb3 xb4
    clear zxc xc0 xc1 xc2 xc3 xc4
    replace Hl := Lib.hid (((Hl.out.alloc _).alloc _).below hb)
    replace Hxa := Lib.hid (((Hxa.out.alloc _).alloc _).below hb)
    replace Hxb := Lib.hid (((Hxb.out.alloc _).alloc _).below hb)
    replace Hxc := Lib.hid (((Hxc.out.alloc _).alloc _).below hb)
    have Hxd := Lib.hid (((LnBox.at (g := W3.heap.size) (by first | rfl | simp) op n2 r o b 23).alloc _).below hb)
    have Hxe := Lib.hid ((LnBox.at (g := W3.heap.size + 1) (by first | rfl | simp) op2 n r o b 23).below hb)
    replace hB := chain (below_al (below_al hB _) _) hb
    obtain ⟨l0, l1, l2, l3, l4⟩ := Hl.out
    have zl := lt_of_cell l0
    obtain ⟨xa0, xa1, xa2, xa3, xa4⟩ := Hxa.out
    have zxa := lt_of_cell xa0
    obtain ⟨xb0, xb1, xb2, xb3, xb4⟩ := Hxb.out
    have zxb := lt_of_cell xb0
    obtain ⟨xc0, xc1, xc2, xc3, xc4⟩ := Hxc.out
    have zxc := lt_of_cell xc0
    obtain ⟨xd0, xd1, xd2, xd3, xd4⟩ := Hxd.out
    have zxd := lt_of_cell xd0
    obtain ⟨xe0, xe1, xe2, xe3, xe4⟩ := Hxe.out
    have zxe := lt_of_cell xe0
    go_wp2_with fail
    refine (HRc'.out _ (HR.out.below hB)).mono ?_
    rintro e wk5 ⟨rfl, hb⟩
    clear zl l0 l1 l2 l3 l4
    clear zxa xa0 xa1 xa2 xa3 xa4
    clear zxb xb0 xb1 xb2 xb3 xb4
    clear zxc xc0 xc1 xc2 xc3 xc4
    clear zxd xd0 xd1 xd2 xd3 xd4
    clear zxe xe0 xe1 xe2 xe3 xe4
    replace Hl := Lib.hid (Hl.out.below hb)
    replace Hxa := Lib.hid (Hxa.out.below hb)
    replace Hxb := Lib.hid (Hxb.out.below hb)
    replace Hxc := Lib.hid (Hxc.out.below hb)
    replace Hxd := Lib.hid (Hxd.out.below hb)
    replace Hxe := Lib.hid (Hxe.out.below hb)
    replace hB := chain hB hb
    obtain ⟨l0, l1, l2, l3, l4⟩ := Hl.out
    have zl := lt_of_cell l0
    obtain ⟨xa0, xa1, xa2, xa3, xa4⟩ := Hxa.out
    have zxa := lt_of_cell xa0
    obtain ⟨xb0, xb1, xb2, xb3, xb4⟩ := Hxb.out
    have zxb := lt_of_cell xb0
    obtain ⟨xc0, xc1, xc2, xc3, xc4⟩ := Hxc.out
    have zxc := lt_of_cell xc0
    obtain ⟨xd0, xd1, xd2, xd3, xd4⟩ := Hxd.out
    have zxd := lt_of_cell xd0
    obtain ⟨xe0, xe1, xe2, xe3, xe4⟩ := Hxe.out
    have zxe := lt_of_cell xe0
    go_wp2_with fail
    refine (HRd'.out _ (HR.out.below hB)).mono ?_
    rintro e wk6 ⟨rfl, hb⟩
    clear zl l0 l1 l2 l3 l4
    clear zxa xa0 xa1 xa2 xa3 xa4
    clear zxb xb0 xb1 xb2 xb3 xb4
    clear zxc xc0 xc1 xc2 xc3 xc4
    clear zxd xd0 xd1 xd2 xd3 xd4
    clear zxe xe0 xe1 xe2 xe3 xe4
    replace Hl := Lib.hid (Hl.out.below hb)
    replace Hxa := Lib.hid (Hxa.out.below hb)
    replace Hxb := Lib.hid (Hxb.out.below hb)
    replace Hxc := Lib.hid (Hxc.out.below hb)
    replace Hxd := Lib.hid (Hxd.out.below hb)
    replace Hxe := Lib.hid (Hxe.out.below hb)
    replace hB := chain hB hb
    obtain ⟨l0, l1, l2, l3, l4⟩ := Hl.out
    have zl := lt_of_cell l0
    obtain ⟨xa0, xa1, xa2, xa3, xa4⟩ := Hxa.out
    have zxa := lt_of_cell xa0
    obtain ⟨xb0, xb1, xb2, xb3, xb4⟩ := Hxb.out
    have zxb := lt_of_cell xb0
    obtain ⟨xc0, xc1, xc2, xc3, xc4⟩ := Hxc.out
    have zxc := lt_of_cell xc0
    obtain ⟨xd0, xd1, xd2, xd3, xd4⟩ := Hxd.out
    have zxd := lt_of_cell xd0
    obtain ⟨xe0, xe1, xe2, xe3, xe4⟩ := Hxe.out
    have zxe := lt_of_cell xe0
    go_wp2
    go_ret
    exact ⟨rfl, hB⟩
  · skip
    have mr : ¬ r.toList = [] := by rw [Lib.toList_data]; exact (fun e => by rw [e, regB_nil] at x1; cases x1)
    have kr : (r.toList == []) = false := by simpa using mr
    have jr : r.toList.isEmpty = false := by simpa using mr
    have mo : o.toList = [] := by rw [Lib.toList_data]; exact x2
    have mb : b.toList = [] := by rw [Lib.toList_data]; exact x3
    have wo : o.data.toList = [] := by rw [← Lib.toList_data]; exact mo
    have po := hrl
    rw [wo] at po
    have HRb := fun W h => right_any op n r s b W h
    rw [zero_loc (op := op) (n := n) (r := r.data.toList) (b := b.data.toList) (s := s.data.toList) (po) hs] at HRb
    have wb : b.data.toList = [] := by rw [← Lib.toList_data]; exact mb
    have pb := hrl
    rw [wb] at pb
    have HRc := fun W h => right_any op n r o s W h
    rw [zero_label (op := op) (n := n) (r := r.data.toList) (o := o.data.toList) (s := s.data.toList) (pb) hs] at HRc
    have hnb : numB op = true := by unfold numB; rw [ho]; rfl
    rw [hnb] at HRd
    have g1 : (op == 1) = false := by rw [ho]; rfl
    have g4 : (op == 4) = false := by rw [ho]; rfl
    have g7 : (op == 7) = true := by rw [ho]; rfl
    have HRb' := Lib.hid HRb
    have HRc' := Lib.hid HRc
    have HRd' := Lib.hid HRd
    clear HRd hnb hrl hs hn2 ho x1 x2 x3 HRb wo po HRc wb pb
    unfold lnv at *
    go_enter Tryd.func7, Tryd.ntmps7
    go_wp2_with fail
    refine (HH.out _ (HR.out.below (below_al hB _))).mono ?_
    rintro e wk1 ⟨rfl, hb⟩
    have Hl := Lib.hid ((LnBox.at (g := w.heap.size) (by first | rfl | simp) op n r o b 23).below hb)
    replace hB := chain (below_al hB _) hb
    obtain ⟨l0, l1, l2, l3, l4⟩ := Hl.out
    have zl := lt_of_cell l0
    go_wp2_with fail
    refine (HL.out _).mono ?_
    rintro e wk2 ⟨rfl, hb⟩
    clear zl l0 l1 l2 l3 l4
    replace Hl := Lib.hid (Hl.out.below hb)
    replace hB := chain hB hb
    obtain ⟨l0, l1, l2, l3, l4⟩ := Hl.out
    have zl := lt_of_cell l0
    go_wp2_with fail
    refine (HRl.out _ (HR.out.below hB)).mono ?_
    rintro e wk3 ⟨rfl, hb⟩
    clear zl l0 l1 l2 l3 l4
    replace Hl := Lib.hid (Hl.out.below hb)
    replace hB := chain hB hb
    obtain ⟨l0, l1, l2, l3, l4⟩ := Hl.out
    have zl := lt_of_cell l0
    go_upto_region 10 with (fail)
    clear zl l0 l1 l2 l3 l4
    have Bl := ((Hl.out.alloc (.cells #[.int .i64 op, .string s, .string o, .string b, .int .i64 n] 23)).alloc (.cells #[.int .i64 op, .string r, .string s, .string b, .int .i64 n] 23)).alloc (.cells #[.int .i64 op, .string r, .string o, .string s, .int .i64 n] 23)
    have Ba := ((LnBox.at (w := wk3) (g := wk3.heap.size) rfl op n s o b 23).alloc (.cells #[.int .i64 op, .string r, .string s, .string b, .int .i64 n] 23)).alloc (.cells #[.int .i64 op, .string r, .string o, .string s, .int .i64 n] 23)
    have Bb := (LnBox.at (w := wk3.alloc (.cells #[.int .i64 op, .string s, .string o, .string b, .int .i64 n] 23)) (g := wk3.heap.size + 1) (by simp) op n r s b 23).alloc (.cells #[.int .i64 op, .string r, .string o, .string s, .int .i64 n] 23)
    have Bc := LnBox.at (w := (wk3.alloc (.cells #[.int .i64 op, .string s, .string o, .string b, .int .i64 n] 23)).alloc (.cells #[.int .i64 op, .string r, .string s, .string b, .int .i64 n] 23)) (g := wk3.heap.size + 1 + 1) (by simp) op n r o s 23
    have hB3 := below_al (below_al (below_al hB (.cells #[.int .i64 op, .string s, .string o, .string b, .int .i64 n] 23)) (.cells #[.int .i64 op, .string r, .string s, .string b, .int .i64 n] 23)) (.cells #[.int .i64 op, .string r, .string o, .string s, .int .i64 n] 23)
    clear hB Hl
    generalize hW3 : (((wk3.alloc (.cells #[.int .i64 op, .string s, .string o, .string b, .int .i64 n] 23)).alloc (.cells #[.int .i64 op, .string r, .string s, .string b, .int .i64 n] 23)).alloc (.cells #[.int .i64 op, .string r, .string o, .string s, .int .i64 n] 23)) = W3 at *
    clear hW3
    have hB := hB3
    have Hl := Lib.hid Bl
    have Hxa := Lib.hid Ba
    have Hxb := Lib.hid Bb
    have Hxc := Lib.hid Bc
    clear Bl Ba Bb Bc hB3
    obtain ⟨l0, l1, l2, l3, l4⟩ := Hl.out
    have zl := lt_of_cell l0
    obtain ⟨xa0, xa1, xa2, xa3, xa4⟩ := Hxa.out
    have zxa := lt_of_cell xa0
    obtain ⟨xb0, xb1, xb2, xb3, xb4⟩ := Hxb.out
    have zxb := lt_of_cell xb0
    obtain ⟨xc0, xc1, xc2, xc3, xc4⟩ := Hxc.out
    have zxc := lt_of_cell xc0
    go_wp2_with fail
    refine (HRb'.out _ (HR.out.below (below_al (below_al hB _) _))).mono ?_
    rintro e wk4 ⟨rfl, hb⟩
    clear zl l0 l1 l2 l3 l4
    clear zxa xa0 xa1 xa2 xa3 xa4
    clear zxb xb0 xb1 xb2 xb3 xb4
    clear zxc xc0 xc1 xc2 xc3 xc4
    replace Hl := Lib.hid (((Hl.out.alloc _).alloc _).below hb)
    replace Hxa := Lib.hid (((Hxa.out.alloc _).alloc _).below hb)
    replace Hxb := Lib.hid (((Hxb.out.alloc _).alloc _).below hb)
    replace Hxc := Lib.hid (((Hxc.out.alloc _).alloc _).below hb)
    have Hxd := Lib.hid (((LnBox.at (g := W3.heap.size) (by first | rfl | simp) op n2 r o b 23).alloc _).below hb)
    have Hxe := Lib.hid ((LnBox.at (g := W3.heap.size + 1) (by first | rfl | simp) op2 n r o b 23).below hb)
    replace hB := chain (below_al (below_al hB _) _) hb
    obtain ⟨l0, l1, l2, l3, l4⟩ := Hl.out
    have zl := lt_of_cell l0
    obtain ⟨xa0, xa1, xa2, xa3, xa4⟩ := Hxa.out
    have zxa := lt_of_cell xa0
    obtain ⟨xb0, xb1, xb2, xb3, xb4⟩ := Hxb.out
    have zxb := lt_of_cell xb0
    obtain ⟨xc0, xc1, xc2, xc3, xc4⟩ := Hxc.out
    have zxc := lt_of_cell xc0
    obtain ⟨xd0, xd1, xd2, xd3, xd4⟩ := Hxd.out
    have zxd := lt_of_cell xd0
    obtain ⟨xe0, xe1, xe2, xe3, xe4⟩ := Hxe.out
    have zxe := lt_of_cell xe0
    go_wp2_with fail
    refine (HRc'.out _ (HR.out.below hB)).mono ?_
    rintro e wk5 ⟨rfl, hb⟩
    clear zl l0 l1 l2 l3 l4
    clear zxa xa0 xa1 xa2 xa3 xa4
    clear zxb xb0 xb1 xb2 xb3 xb4
    clear zxc xc0 xc1 xc2 xc3 xc4
    clear zxd xd0 xd1 xd2 xd3 xd4
    clear zxe xe0 xe1 xe2 xe3 xe4
    replace Hl := Lib.hid (Hl.out.below hb)
    replace Hxa := Lib.hid (Hxa.out.below hb)
    replace Hxb := Lib.hid (Hxb.out.below hb)
    replace Hxc := Lib.hid (Hxc.out.below hb)
    replace Hxd := Lib.hid (Hxd.out.below hb)
    replace Hxe := Lib.hid (Hxe.out.below hb)
    replace hB := chain hB hb
    obtain ⟨l0, l1, l2, l3, l4⟩ := Hl.out
    have zl := lt_of_cell l0
    obtain ⟨xa0, xa1, xa2, xa3, xa4⟩ := Hxa.out
    have zxa := lt_of_cell xa0
    obtain ⟨xb0, xb1, xb2, xb3, xb4⟩ := Hxb.out
    have zxb := lt_of_cell xb0
    obtain ⟨xc0, xc1, xc2, xc3, xc4⟩ := Hxc.out
    have zxc := lt_of_cell xc0
    obtain ⟨xd0, xd1, xd2, xd3, xd4⟩ := Hxd.out
    have zxd := lt_of_cell xd0
    obtain ⟨xe0, xe1, xe2, xe3, xe4⟩ := Hxe.out
    have zxe := lt_of_cell xe0
    go_wp2_with fail
    refine (HRd'.out _ (HR.out.below hB)).mono ?_
    rintro e wk6 ⟨rfl, hb⟩
    clear zl l0 l1 l2 l3 l4
    clear zxa xa0 xa1 xa2 xa3 xa4
    clear zxb xb0 xb1 xb2 xb3 xb4
    clear zxc xc0 xc1 xc2 xc3 xc4
    clear zxd xd0 xd1 xd2 xd3 xd4
    clear zxe xe0 xe1 xe2 xe3 xe4
    replace Hl := Lib.hid (Hl.out.below hb)
    replace Hxa := Lib.hid (Hxa.out.below hb)
    replace Hxb := Lib.hid (Hxb.out.below hb)
    replace Hxc := Lib.hid (Hxc.out.below hb)
    replace Hxd := Lib.hid (Hxd.out.below hb)
    replace Hxe := Lib.hid (Hxe.out.below hb)
    replace hB := chain hB hb
    obtain ⟨l0, l1, l2, l3, l4⟩ := Hl.out
    have zl := lt_of_cell l0
    obtain ⟨xa0, xa1, xa2, xa3, xa4⟩ := Hxa.out
    have zxa := lt_of_cell xa0
    obtain ⟨xb0, xb1, xb2, xb3, xb4⟩ := Hxb.out
    have zxb := lt_of_cell xb0
    obtain ⟨xc0, xc1, xc2, xc3, xc4⟩ := Hxc.out
    have zxc := lt_of_cell xc0
    obtain ⟨xd0, xd1, xd2, xd3, xd4⟩ := Hxd.out
    have zxd := lt_of_cell xd0
    obtain ⟨xe0, xe1, xe2, xe3, xe4⟩ := Hxe.out
    have zxe := lt_of_cell xe0
    go_wp2
    go_ret
    exact ⟨rfl, hB⟩
  · skip
    have mr : ¬ r.toList = [] := by rw [Lib.toList_data]; exact (fun e => by rw [e, regB_nil] at x1; cases x1)
    have kr : (r.toList == []) = false := by simpa using mr
    have jr : r.toList.isEmpty = false := by simpa using mr
    have mo : ¬ o.toList = [] := by rw [Lib.toList_data]; exact (fun e => by rw [e, nameB_nil] at x2; cases x2)
    have ko : (o.toList == []) = false := by simpa using mo
    have jo : o.toList.isEmpty = false := by simpa using mo
    have mb : b.toList = [] := by rw [Lib.toList_data]; exact x3
    have wb : b.data.toList = [] := by rw [← Lib.toList_data]; exact mb
    have pb := hrl
    rw [wb] at pb
    have HRc := fun W h => right_any op n r o s W h
    rw [zero_label (op := op) (n := n) (r := r.data.toList) (o := o.data.toList) (s := s.data.toList) (pb) hs] at HRc
    have hnb : numB op = false := by unfold numB; rw [decide_eq_false (by omega), decide_eq_false (by omega), decide_eq_false (by omega)]; rfl
    rw [hnb] at HRd
    have g1 : (op == 1) = false := beq_eq_false_iff_ne.2 (by omega)
    have g4 : (op == 4) = false := beq_eq_false_iff_ne.2 (by omega)
    have g7 : (op == 7) = false := beq_eq_false_iff_ne.2 (by omega)
    have HRc' := Lib.hid HRc
    have HRd' := Lib.hid HRd
    clear HRd hnb hrl hs hn2 ho x1 x2 x3 x4 HRc wb pb
    unfold lnv at *
    go_enter Tryd.func7, Tryd.ntmps7
    go_wp2_with fail
    refine (HH.out _ (HR.out.below (below_al hB _))).mono ?_
    rintro e wk1 ⟨rfl, hb⟩
    have Hl := Lib.hid ((LnBox.at (g := w.heap.size) (by first | rfl | simp) op n r o b 23).below hb)
    replace hB := chain (below_al hB _) hb
    obtain ⟨l0, l1, l2, l3, l4⟩ := Hl.out
    have zl := lt_of_cell l0
    go_wp2_with fail
    refine (HL.out _).mono ?_
    rintro e wk2 ⟨rfl, hb⟩
    clear zl l0 l1 l2 l3 l4
    replace Hl := Lib.hid (Hl.out.below hb)
    replace hB := chain hB hb
    obtain ⟨l0, l1, l2, l3, l4⟩ := Hl.out
    have zl := lt_of_cell l0
    go_wp2_with fail
    refine (HRl.out _ (HR.out.below hB)).mono ?_
    rintro e wk3 ⟨rfl, hb⟩
    clear zl l0 l1 l2 l3 l4
    replace Hl := Lib.hid (Hl.out.below hb)
    replace hB := chain hB hb
    obtain ⟨l0, l1, l2, l3, l4⟩ := Hl.out
    have zl := lt_of_cell l0
    go_upto_region 10 with (fail)
    clear zl l0 l1 l2 l3 l4
    have Bl := ((Hl.out.alloc (.cells #[.int .i64 op, .string s, .string o, .string b, .int .i64 n] 23)).alloc (.cells #[.int .i64 op, .string r, .string s, .string b, .int .i64 n] 23)).alloc (.cells #[.int .i64 op, .string r, .string o, .string s, .int .i64 n] 23)
    have Ba := ((LnBox.at (w := wk3) (g := wk3.heap.size) rfl op n s o b 23).alloc (.cells #[.int .i64 op, .string r, .string s, .string b, .int .i64 n] 23)).alloc (.cells #[.int .i64 op, .string r, .string o, .string s, .int .i64 n] 23)
    have Bb := (LnBox.at (w := wk3.alloc (.cells #[.int .i64 op, .string s, .string o, .string b, .int .i64 n] 23)) (g := wk3.heap.size + 1) (by simp) op n r s b 23).alloc (.cells #[.int .i64 op, .string r, .string o, .string s, .int .i64 n] 23)
    have Bc := LnBox.at (w := (wk3.alloc (.cells #[.int .i64 op, .string s, .string o, .string b, .int .i64 n] 23)).alloc (.cells #[.int .i64 op, .string r, .string s, .string b, .int .i64 n] 23)) (g := wk3.heap.size + 1 + 1) (by simp) op n r o s 23
    have hB3 := below_al (below_al (below_al hB (.cells #[.int .i64 op, .string s, .string o, .string b, .int .i64 n] 23)) (.cells #[.int .i64 op, .string r, .string s, .string b, .int .i64 n] 23)) (.cells #[.int .i64 op, .string r, .string o, .string s, .int .i64 n] 23)
    clear hB Hl
    generalize hW3 : (((wk3.alloc (.cells #[.int .i64 op, .string s, .string o, .string b, .int .i64 n] 23)).alloc (.cells #[.int .i64 op, .string r, .string s, .string b, .int .i64 n] 23)).alloc (.cells #[.int .i64 op, .string r, .string o, .string s, .int .i64 n] 23)) = W3 at *
    clear hW3
    have hB := hB3
    have Hl := Lib.hid Bl
    have Hxa := Lib.hid Ba
    have Hxb := Lib.hid Bb
    have Hxc := Lib.hid Bc
    clear Bl Ba Bb Bc hB3
    obtain ⟨l0, l1, l2, l3, l4⟩ := Hl.out
    have zl := lt_of_cell l0
    obtain ⟨xa0, xa1, xa2, xa3, xa4⟩ := Hxa.out
    have zxa := lt_of_cell xa0
    obtain ⟨xb0, xb1, xb2, xb3, xb4⟩ := Hxb.out
    have zxb := lt_of_cell xb0
    obtain ⟨xc0, xc1, xc2, xc3, xc4⟩ := Hxc.out
    have zxc := lt_of_cell xc0
    go_wp2_with fail
    refine (HRc'.out _ (HR.out.below (below_al (below_al hB _) _))).mono ?_
    rintro e wk4 ⟨rfl, hb⟩
    clear zl l0 l1 l2 l3 l4
    clear zxa xa0 xa1 xa2 xa3 xa4
    clear zxb xb0 xb1 xb2 xb3 xb4
    clear zxc xc0 xc1 xc2 xc3 xc4
    replace Hl := Lib.hid (((Hl.out.alloc _).alloc _).below hb)
    replace Hxa := Lib.hid (((Hxa.out.alloc _).alloc _).below hb)
    replace Hxb := Lib.hid (((Hxb.out.alloc _).alloc _).below hb)
    replace Hxc := Lib.hid (((Hxc.out.alloc _).alloc _).below hb)
    have Hxd := Lib.hid (((LnBox.at (g := W3.heap.size) (by first | rfl | simp) op n2 r o b 23).alloc _).below hb)
    have Hxe := Lib.hid ((LnBox.at (g := W3.heap.size + 1) (by first | rfl | simp) op2 n r o b 23).below hb)
    replace hB := chain (below_al (below_al hB _) _) hb
    obtain ⟨l0, l1, l2, l3, l4⟩ := Hl.out
    have zl := lt_of_cell l0
    obtain ⟨xa0, xa1, xa2, xa3, xa4⟩ := Hxa.out
    have zxa := lt_of_cell xa0
    obtain ⟨xb0, xb1, xb2, xb3, xb4⟩ := Hxb.out
    have zxb := lt_of_cell xb0
    obtain ⟨xc0, xc1, xc2, xc3, xc4⟩ := Hxc.out
    have zxc := lt_of_cell xc0
    obtain ⟨xd0, xd1, xd2, xd3, xd4⟩ := Hxd.out
    have zxd := lt_of_cell xd0
    obtain ⟨xe0, xe1, xe2, xe3, xe4⟩ := Hxe.out
    have zxe := lt_of_cell xe0
    go_wp2_with fail
    refine (HRd'.out _ (HR.out.below hB)).mono ?_
    rintro e wk5 ⟨rfl, hb⟩
    clear zl l0 l1 l2 l3 l4
    clear zxa xa0 xa1 xa2 xa3 xa4
    clear zxb xb0 xb1 xb2 xb3 xb4
    clear zxc xc0 xc1 xc2 xc3 xc4
    clear zxd xd0 xd1 xd2 xd3 xd4
    clear zxe xe0 xe1 xe2 xe3 xe4
    replace Hl := Lib.hid (Hl.out.below hb)
    replace Hxa := Lib.hid (Hxa.out.below hb)
    replace Hxb := Lib.hid (Hxb.out.below hb)
    replace Hxc := Lib.hid (Hxc.out.below hb)
    replace Hxd := Lib.hid (Hxd.out.below hb)
    replace Hxe := Lib.hid (Hxe.out.below hb)
    replace hB := chain hB hb
    obtain ⟨l0, l1, l2, l3, l4⟩ := Hl.out
    have zl := lt_of_cell l0
    obtain ⟨xa0, xa1, xa2, xa3, xa4⟩ := Hxa.out
    have zxa := lt_of_cell xa0
    obtain ⟨xb0, xb1, xb2, xb3, xb4⟩ := Hxb.out
    have zxb := lt_of_cell xb0
    obtain ⟨xc0, xc1, xc2, xc3, xc4⟩ := Hxc.out
    have zxc := lt_of_cell xc0
    obtain ⟨xd0, xd1, xd2, xd3, xd4⟩ := Hxd.out
    have zxd := lt_of_cell xd0
    obtain ⟨xe0, xe1, xe2, xe3, xe4⟩ := Hxe.out
    have zxe := lt_of_cell xe0
    go_wp2
    go_ret
    exact ⟨rfl, hB⟩
  · skip
    have mr : r.toList = [] := by rw [Lib.toList_data]; exact x2
    have mo : ¬ o.toList = [] := by rw [Lib.toList_data]; exact (fun e => by rw [e, nameB_nil] at x1; cases x1)
    have ko : (o.toList == []) = false := by simpa using mo
    have jo : o.toList.isEmpty = false := by simpa using mo
    have mb : b.toList = [] := by rw [Lib.toList_data]; exact x3
    have wr : r.data.toList = [] := by rw [← Lib.toList_data]; exact mr
    have pr := hrl
    rw [wr] at pr
    have HRa := fun W h => right_any op n s o b W h
    rw [zero_reg (op := op) (n := n) (o := o.data.toList) (b := b.data.toList) (s := s.data.toList) (pr) hs] at HRa
    have wb : b.data.toList = [] := by rw [← Lib.toList_data]; exact mb
    have pb := hrl
    rw [wb] at pb
    have HRc := fun W h => right_any op n r o s W h
    rw [zero_label (op := op) (n := n) (r := r.data.toList) (o := o.data.toList) (s := s.data.toList) (pb) hs] at HRc
    have hnb : numB op = true := by unfold numB; rw [ho]; rfl
    rw [hnb] at HRd
    have g1 : (op == 1) = false := by rw [ho]; rfl
    have g4 : (op == 4) = true := by rw [ho]; rfl
    have g7 : (op == 7) = false := by rw [ho]; rfl
    have HRa' := Lib.hid HRa
    have HRc' := Lib.hid HRc
    have HRd' := Lib.hid HRd
    clear HRd hnb hrl hs hn2 ho x1 x2 x3 HRa wr pr HRc wb pb
    unfold lnv at *
    go_enter Tryd.func7, Tryd.ntmps7
    go_wp2_with fail
    refine (HH.out _ (HR.out.below (below_al hB _))).mono ?_
    rintro e wk1 ⟨rfl, hb⟩
    have Hl := Lib.hid ((LnBox.at (g := w.heap.size) (by first | rfl | simp) op n r o b 23).below hb)
    replace hB := chain (below_al hB _) hb
    obtain ⟨l0, l1, l2, l3, l4⟩ := Hl.out
    have zl := lt_of_cell l0
    go_wp2_with fail
    refine (HL.out _).mono ?_
    rintro e wk2 ⟨rfl, hb⟩
    clear zl l0 l1 l2 l3 l4
    replace Hl := Lib.hid (Hl.out.below hb)
    replace hB := chain hB hb
    obtain ⟨l0, l1, l2, l3, l4⟩ := Hl.out
    have zl := lt_of_cell l0
    go_wp2_with fail
    refine (HRl.out _ (HR.out.below hB)).mono ?_
    rintro e wk3 ⟨rfl, hb⟩
    clear zl l0 l1 l2 l3 l4
    replace Hl := Lib.hid (Hl.out.below hb)
    replace hB := chain hB hb
    obtain ⟨l0, l1, l2, l3, l4⟩ := Hl.out
    have zl := lt_of_cell l0
    go_upto_region 10 with (fail)
    clear zl l0 l1 l2 l3 l4
    have Bl := ((Hl.out.alloc (.cells #[.int .i64 op, .string s, .string o, .string b, .int .i64 n] 23)).alloc (.cells #[.int .i64 op, .string r, .string s, .string b, .int .i64 n] 23)).alloc (.cells #[.int .i64 op, .string r, .string o, .string s, .int .i64 n] 23)
    have Ba := ((LnBox.at (w := wk3) (g := wk3.heap.size) rfl op n s o b 23).alloc (.cells #[.int .i64 op, .string r, .string s, .string b, .int .i64 n] 23)).alloc (.cells #[.int .i64 op, .string r, .string o, .string s, .int .i64 n] 23)
    have Bb := (LnBox.at (w := wk3.alloc (.cells #[.int .i64 op, .string s, .string o, .string b, .int .i64 n] 23)) (g := wk3.heap.size + 1) (by simp) op n r s b 23).alloc (.cells #[.int .i64 op, .string r, .string o, .string s, .int .i64 n] 23)
    have Bc := LnBox.at (w := (wk3.alloc (.cells #[.int .i64 op, .string s, .string o, .string b, .int .i64 n] 23)).alloc (.cells #[.int .i64 op, .string r, .string s, .string b, .int .i64 n] 23)) (g := wk3.heap.size + 1 + 1) (by simp) op n r o s 23
    have hB3 := below_al (below_al (below_al hB (.cells #[.int .i64 op, .string s, .string o, .string b, .int .i64 n] 23)) (.cells #[.int .i64 op, .string r, .string s, .string b, .int .i64 n] 23)) (.cells #[.int .i64 op, .string r, .string o, .string s, .int .i64 n] 23)
    clear hB Hl
    generalize hW3 : (((wk3.alloc (.cells #[.int .i64 op, .string s, .string o, .string b, .int .i64 n] 23)).alloc (.cells #[.int .i64 op, .string r, .string s, .string b, .int .i64 n] 23)).alloc (.cells #[.int .i64 op, .string r, .string o, .string s, .int .i64 n] 23)) = W3 at *
    clear hW3
    have hB := hB3
    have Hl := Lib.hid Bl
    have Hxa := Lib.hid Ba
    have Hxb := Lib.hid Bb
    have Hxc := Lib.hid Bc
    clear Bl Ba Bb Bc hB3
    obtain ⟨l0, l1, l2, l3, l4⟩ := Hl.out
    have zl := lt_of_cell l0
    obtain ⟨xa0, xa1, xa2, xa3, xa4⟩ := Hxa.out
    have zxa := lt_of_cell xa0
    obtain ⟨xb0, xb1, xb2, xb3, xb4⟩ := Hxb.out
    have zxb := lt_of_cell xb0
    obtain ⟨xc0, xc1, xc2, xc3, xc4⟩ := Hxc.out
    have zxc := lt_of_cell xc0
    go_wp2_with fail
    refine (HRa'.out _ (HR.out.below (below_al (below_al hB _) _))).mono ?_
    rintro e wk4 ⟨rfl, hb⟩
    clear zl l0 l1 l2 l3 l4
    clear zxa xa0 xa1 xa2 xa3 xa4
    clear zxb xb0 xb1 xb2 xb3 xb4
    clear zxc xc0 xc1 xc2 xc3 xc4
    replace Hl := Lib.hid (((Hl.out.alloc _).alloc _).below hb)
    replace Hxa := Lib.hid (((Hxa.out.alloc _).alloc _).below hb)
    replace Hxb := Lib.hid (((Hxb.out.alloc _).alloc _).below hb)
    replace Hxc := Lib.hid (((Hxc.out.alloc _).alloc _).below hb)
    have Hxd := Lib.hid (((LnBox.at (g := W3.heap.size) (by first | rfl | simp) op n2 r o b 23).alloc _).below hb)
    have Hxe := Lib.hid ((LnBox.at (g := W3.heap.size + 1) (by first | rfl | simp) op2 n r o b 23).below hb)
    replace hB := chain (below_al (below_al hB _) _) hb
    obtain ⟨l0, l1, l2, l3, l4⟩ := Hl.out
    have zl := lt_of_cell l0
    obtain ⟨xa0, xa1, xa2, xa3, xa4⟩ := Hxa.out
    have zxa := lt_of_cell xa0
    obtain ⟨xb0, xb1, xb2, xb3, xb4⟩ := Hxb.out
    have zxb := lt_of_cell xb0
    obtain ⟨xc0, xc1, xc2, xc3, xc4⟩ := Hxc.out
    have zxc := lt_of_cell xc0
    obtain ⟨xd0, xd1, xd2, xd3, xd4⟩ := Hxd.out
    have zxd := lt_of_cell xd0
    obtain ⟨xe0, xe1, xe2, xe3, xe4⟩ := Hxe.out
    have zxe := lt_of_cell xe0
    go_wp2_with fail
    refine (HRc'.out _ (HR.out.below hB)).mono ?_
    rintro e wk5 ⟨rfl, hb⟩
    clear zl l0 l1 l2 l3 l4
    clear zxa xa0 xa1 xa2 xa3 xa4
    clear zxb xb0 xb1 xb2 xb3 xb4
    clear zxc xc0 xc1 xc2 xc3 xc4
    clear zxd xd0 xd1 xd2 xd3 xd4
    clear zxe xe0 xe1 xe2 xe3 xe4
    replace Hl := Lib.hid (Hl.out.below hb)
    replace Hxa := Lib.hid (Hxa.out.below hb)
    replace Hxb := Lib.hid (Hxb.out.below hb)
    replace Hxc := Lib.hid (Hxc.out.below hb)
    replace Hxd := Lib.hid (Hxd.out.below hb)
    replace Hxe := Lib.hid (Hxe.out.below hb)
    replace hB := chain hB hb
    obtain ⟨l0, l1, l2, l3, l4⟩ := Hl.out
    have zl := lt_of_cell l0
    obtain ⟨xa0, xa1, xa2, xa3, xa4⟩ := Hxa.out
    have zxa := lt_of_cell xa0
    obtain ⟨xb0, xb1, xb2, xb3, xb4⟩ := Hxb.out
    have zxb := lt_of_cell xb0
    obtain ⟨xc0, xc1, xc2, xc3, xc4⟩ := Hxc.out
    have zxc := lt_of_cell xc0
    obtain ⟨xd0, xd1, xd2, xd3, xd4⟩ := Hxd.out
    have zxd := lt_of_cell xd0
    obtain ⟨xe0, xe1, xe2, xe3, xe4⟩ := Hxe.out
    have zxe := lt_of_cell xe0
    go_wp2_with fail
    refine (HRd'.out _ (HR.out.below hB)).mono ?_
    rintro e wk6 ⟨rfl, hb⟩
    clear zl l0 l1 l2 l3 l4
    clear zxa xa0 xa1 xa2 xa3 xa4
    clear zxb xb0 xb1 xb2 xb3 xb4
    clear zxc xc0 xc1 xc2 xc3 xc4
    clear zxd xd0 xd1 xd2 xd3 xd4
    clear zxe xe0 xe1 xe2 xe3 xe4
    replace Hl := Lib.hid (Hl.out.below hb)
    replace Hxa := Lib.hid (Hxa.out.below hb)
    replace Hxb := Lib.hid (Hxb.out.below hb)
    replace Hxc := Lib.hid (Hxc.out.below hb)
    replace Hxd := Lib.hid (Hxd.out.below hb)
    replace Hxe := Lib.hid (Hxe.out.below hb)
    replace hB := chain hB hb
    obtain ⟨l0, l1, l2, l3, l4⟩ := Hl.out
    have zl := lt_of_cell l0
    obtain ⟨xa0, xa1, xa2, xa3, xa4⟩ := Hxa.out
    have zxa := lt_of_cell xa0
    obtain ⟨xb0, xb1, xb2, xb3, xb4⟩ := Hxb.out
    have zxb := lt_of_cell xb0
    obtain ⟨xc0, xc1, xc2, xc3, xc4⟩ := Hxc.out
    have zxc := lt_of_cell xc0
    obtain ⟨xd0, xd1, xd2, xd3, xd4⟩ := Hxd.out
    have zxd := lt_of_cell xd0
    obtain ⟨xe0, xe1, xe2, xe3, xe4⟩ := Hxe.out
    have zxe := lt_of_cell xe0
    go_wp2
    go_ret
    exact ⟨rfl, hB⟩
  · skip
    have mr : r.toList = [] := by rw [Lib.toList_data]; exact x1
    have mo : o.toList = [] := by rw [Lib.toList_data]; exact x2
    have mb : b.toList = [] := by rw [Lib.toList_data]; exact x3
    have wr : r.data.toList = [] := by rw [← Lib.toList_data]; exact mr
    have pr := hrl
    rw [wr] at pr
    have HRa := fun W h => right_any op n s o b W h
    rw [zero_reg (op := op) (n := n) (o := o.data.toList) (b := b.data.toList) (s := s.data.toList) (pr) hs] at HRa
    have wo : o.data.toList = [] := by rw [← Lib.toList_data]; exact mo
    have po := hrl
    rw [wo] at po
    have HRb := fun W h => right_any op n r s b W h
    rw [zero_loc (op := op) (n := n) (r := r.data.toList) (b := b.data.toList) (s := s.data.toList) (po) hs] at HRb
    have wb : b.data.toList = [] := by rw [← Lib.toList_data]; exact mb
    have pb := hrl
    rw [wb] at pb
    have HRc := fun W h => right_any op n r o s W h
    rw [zero_label (op := op) (n := n) (r := r.data.toList) (o := o.data.toList) (s := s.data.toList) (pb) hs] at HRc
    have hnb : numB op = false := by unfold numB; rw [decide_eq_false (by omega), decide_eq_false (by omega), decide_eq_false (by omega)]; rfl
    rw [hnb] at HRd
    have g1 : (op == 1) = false := beq_eq_false_iff_ne.2 (by omega)
    have g4 : (op == 4) = false := beq_eq_false_iff_ne.2 (by omega)
    have g7 : (op == 7) = false := beq_eq_false_iff_ne.2 (by omega)
    have HRa' := Lib.hid HRa
    have HRb' := Lib.hid HRb
    have HRc' := Lib.hid HRc
    have HRd' := Lib.hid HRd
    clear HRd hnb hrl hs hn2 ho x1 x2 x3 x4 HRa wr pr HRb wo po HRc wb pb
    unfold lnv at *
    go_enter Tryd.func7, Tryd.ntmps7
    go_wp2_with fail
    refine (HH.out _ (HR.out.below (below_al hB _))).mono ?_
    rintro e wk1 ⟨rfl, hb⟩
    have Hl := Lib.hid ((LnBox.at (g := w.heap.size) (by first | rfl | simp) op n r o b 23).below hb)
    replace hB := chain (below_al hB _) hb
    obtain ⟨l0, l1, l2, l3, l4⟩ := Hl.out
    have zl := lt_of_cell l0
    go_wp2_with fail
    refine (HL.out _).mono ?_
    rintro e wk2 ⟨rfl, hb⟩
    clear zl l0 l1 l2 l3 l4
    replace Hl := Lib.hid (Hl.out.below hb)
    replace hB := chain hB hb
    obtain ⟨l0, l1, l2, l3, l4⟩ := Hl.out
    have zl := lt_of_cell l0
    go_wp2_with fail
    refine (HRl.out _ (HR.out.below hB)).mono ?_
    rintro e wk3 ⟨rfl, hb⟩
    clear zl l0 l1 l2 l3 l4
    replace Hl := Lib.hid (Hl.out.below hb)
    replace hB := chain hB hb
    obtain ⟨l0, l1, l2, l3, l4⟩ := Hl.out
    have zl := lt_of_cell l0
    go_upto_region 10 with (fail)
    clear zl l0 l1 l2 l3 l4
    have Bl := ((Hl.out.alloc (.cells #[.int .i64 op, .string s, .string o, .string b, .int .i64 n] 23)).alloc (.cells #[.int .i64 op, .string r, .string s, .string b, .int .i64 n] 23)).alloc (.cells #[.int .i64 op, .string r, .string o, .string s, .int .i64 n] 23)
    have Ba := ((LnBox.at (w := wk3) (g := wk3.heap.size) rfl op n s o b 23).alloc (.cells #[.int .i64 op, .string r, .string s, .string b, .int .i64 n] 23)).alloc (.cells #[.int .i64 op, .string r, .string o, .string s, .int .i64 n] 23)
    have Bb := (LnBox.at (w := wk3.alloc (.cells #[.int .i64 op, .string s, .string o, .string b, .int .i64 n] 23)) (g := wk3.heap.size + 1) (by simp) op n r s b 23).alloc (.cells #[.int .i64 op, .string r, .string o, .string s, .int .i64 n] 23)
    have Bc := LnBox.at (w := (wk3.alloc (.cells #[.int .i64 op, .string s, .string o, .string b, .int .i64 n] 23)).alloc (.cells #[.int .i64 op, .string r, .string s, .string b, .int .i64 n] 23)) (g := wk3.heap.size + 1 + 1) (by simp) op n r o s 23
    have hB3 := below_al (below_al (below_al hB (.cells #[.int .i64 op, .string s, .string o, .string b, .int .i64 n] 23)) (.cells #[.int .i64 op, .string r, .string s, .string b, .int .i64 n] 23)) (.cells #[.int .i64 op, .string r, .string o, .string s, .int .i64 n] 23)
    clear hB Hl
    generalize hW3 : (((wk3.alloc (.cells #[.int .i64 op, .string s, .string o, .string b, .int .i64 n] 23)).alloc (.cells #[.int .i64 op, .string r, .string s, .string b, .int .i64 n] 23)).alloc (.cells #[.int .i64 op, .string r, .string o, .string s, .int .i64 n] 23)) = W3 at *
    clear hW3
    have hB := hB3
    have Hl := Lib.hid Bl
    have Hxa := Lib.hid Ba
    have Hxb := Lib.hid Bb
    have Hxc := Lib.hid Bc
    clear Bl Ba Bb Bc hB3
    obtain ⟨l0, l1, l2, l3, l4⟩ := Hl.out
    have zl := lt_of_cell l0
    obtain ⟨xa0, xa1, xa2, xa3, xa4⟩ := Hxa.out
    have zxa := lt_of_cell xa0
    obtain ⟨xb0, xb1, xb2, xb3, xb4⟩ := Hxb.out
    have zxb := lt_of_cell xb0
    obtain ⟨xc0, xc1, xc2, xc3, xc4⟩ := Hxc.out
    have zxc := lt_of_cell xc0
    go_wp2_with fail
    refine (HRa'.out _ (HR.out.below (below_al (below_al hB _) _))).mono ?_
    rintro e wk4 ⟨rfl, hb⟩
    clear zl l0 l1 l2 l3 l4
    clear zxa xa0 xa1 xa2 xa3 xa4
    clear zxb xb0 xb1 xb2 xb3 xb4
    clear zxc xc0 xc1 xc2 xc3 xc4
    replace Hl := Lib.hid (((Hl.out.alloc _).alloc _).below hb)
    replace Hxa := Lib.hid (((Hxa.out.alloc _).alloc _).below hb)
    replace Hxb := Lib.hid (((Hxb.out.alloc _).alloc _).below hb)
    replace Hxc := Lib.hid (((Hxc.out.alloc _).alloc _).below hb)
    have Hxd := Lib.hid (((LnBox.at (g := W3.heap.size) (by first | rfl | simp) op n2 r o b 23).alloc _).below hb)
    have Hxe := Lib.hid ((LnBox.at (g := W3.heap.size + 1) (by first | rfl | simp) op2 n r o b 23).below hb)
    replace hB := chain (below_al (below_al hB _) _) hb
    obtain ⟨l0, l1, l2, l3, l4⟩ := Hl.out
    have zl := lt_of_cell l0
    obtain ⟨xa0, xa1, xa2, xa3, xa4⟩ := Hxa.out
    have zxa := lt_of_cell xa0
    obtain ⟨xb0, xb1, xb2, xb3, xb4⟩ := Hxb.out
    have zxb := lt_of_cell xb0
    obtain ⟨xc0, xc1, xc2, xc3, xc4⟩ := Hxc.out
    have zxc := lt_of_cell xc0
    obtain ⟨xd0, xd1, xd2, xd3, xd4⟩ := Hxd.out
    have zxd := lt_of_cell xd0
    obtain ⟨xe0, xe1, xe2, xe3, xe4⟩ := Hxe.out
    have zxe := lt_of_cell xe0
    go_wp2_with fail
    refine (HRb'.out _ (HR.out.below hB)).mono ?_
    rintro e wk5 ⟨rfl, hb⟩
    clear zl l0 l1 l2 l3 l4
    clear zxa xa0 xa1 xa2 xa3 xa4
    clear zxb xb0 xb1 xb2 xb3 xb4
    clear zxc xc0 xc1 xc2 xc3 xc4
    clear zxd xd0 xd1 xd2 xd3 xd4
    clear zxe xe0 xe1 xe2 xe3 xe4
    replace Hl := Lib.hid (Hl.out.below hb)
    replace Hxa := Lib.hid (Hxa.out.below hb)
    replace Hxb := Lib.hid (Hxb.out.below hb)
    replace Hxc := Lib.hid (Hxc.out.below hb)
    replace Hxd := Lib.hid (Hxd.out.below hb)
    replace Hxe := Lib.hid (Hxe.out.below hb)
    replace hB := chain hB hb
    obtain ⟨l0, l1, l2, l3, l4⟩ := Hl.out
    have zl := lt_of_cell l0
    obtain ⟨xa0, xa1, xa2, xa3, xa4⟩ := Hxa.out
    have zxa := lt_of_cell xa0
    obtain ⟨xb0, xb1, xb2, xb3, xb4⟩ := Hxb.out
    have zxb := lt_of_cell xb0
    obtain ⟨xc0, xc1, xc2, xc3, xc4⟩ := Hxc.out
    have zxc := lt_of_cell xc0
    obtain ⟨xd0, xd1, xd2, xd3, xd4⟩ := Hxd.out
    have zxd := lt_of_cell xd0
    obtain ⟨xe0, xe1, xe2, xe3, xe4⟩ := Hxe.out
    have zxe := lt_of_cell xe0
    go_wp2_with fail
    refine (HRc'.out _ (HR.out.below hB)).mono ?_
    rintro e wk6 ⟨rfl, hb⟩
    clear zl l0 l1 l2 l3 l4
    clear zxa xa0 xa1 xa2 xa3 xa4
    clear zxb xb0 xb1 xb2 xb3 xb4
    clear zxc xc0 xc1 xc2 xc3 xc4
    clear zxd xd0 xd1 xd2 xd3 xd4
    clear zxe xe0 xe1 xe2 xe3 xe4
    replace Hl := Lib.hid (Hl.out.below hb)
    replace Hxa := Lib.hid (Hxa.out.below hb)
    replace Hxb := Lib.hid (Hxb.out.below hb)
    replace Hxc := Lib.hid (Hxc.out.below hb)
    replace Hxd := Lib.hid (Hxd.out.below hb)
    replace Hxe := Lib.hid (Hxe.out.below hb)
    replace hB := chain hB hb
    obtain ⟨l0, l1, l2, l3, l4⟩ := Hl.out
    have zl := lt_of_cell l0
    obtain ⟨xa0, xa1, xa2, xa3, xa4⟩ := Hxa.out
    have zxa := lt_of_cell xa0
    obtain ⟨xb0, xb1, xb2, xb3, xb4⟩ := Hxb.out
    have zxb := lt_of_cell xb0
    obtain ⟨xc0, xc1, xc2, xc3, xc4⟩ := Hxc.out
    have zxc := lt_of_cell xc0
    obtain ⟨xd0, xd1, xd2, xd3, xd4⟩ := Hxd.out
    have zxd := lt_of_cell xd0
    obtain ⟨xe0, xe1, xe2, xe3, xe4⟩ := Hxe.out
    have zxe := lt_of_cell xe0
    go_wp2_with fail
    refine (HRd'.out _ (HR.out.below hB)).mono ?_
    rintro e wk7 ⟨rfl, hb⟩
    clear zl l0 l1 l2 l3 l4
    clear zxa xa0 xa1 xa2 xa3 xa4
    clear zxb xb0 xb1 xb2 xb3 xb4
    clear zxc xc0 xc1 xc2 xc3 xc4
    clear zxd xd0 xd1 xd2 xd3 xd4
    clear zxe xe0 xe1 xe2 xe3 xe4
    replace Hl := Lib.hid (Hl.out.below hb)
    replace Hxa := Lib.hid (Hxa.out.below hb)
    replace Hxb := Lib.hid (Hxb.out.below hb)
    replace Hxc := Lib.hid (Hxc.out.below hb)
    replace Hxd := Lib.hid (Hxd.out.below hb)
    replace Hxe := Lib.hid (Hxe.out.below hb)
    replace hB := chain hB hb
    obtain ⟨l0, l1, l2, l3, l4⟩ := Hl.out
    have zl := lt_of_cell l0
    obtain ⟨xa0, xa1, xa2, xa3, xa4⟩ := Hxa.out
    have zxa := lt_of_cell xa0
    obtain ⟨xb0, xb1, xb2, xb3, xb4⟩ := Hxb.out
    have zxb := lt_of_cell xb0
    obtain ⟨xc0, xc1, xc2, xc3, xc4⟩ := Hxc.out
    have zxc := lt_of_cell xc0
    obtain ⟨xd0, xd1, xd2, xd3, xd4⟩ := Hxd.out
    have zxd := lt_of_cell xd0
    obtain ⟨xe0, xe1, xe2, xe3, xe4⟩ := Hxe.out
    have zxe := lt_of_cell xe0
    go_wp2
    go_ret
    exact ⟨rfl, hB⟩
  · skip
    have mr : r.toList = [] := by rw [Lib.toList_data]; exact x2
    have mo : o.toList = [] := by rw [Lib.toList_data]; exact x3
    have mb : ¬ b.toList = [] := by rw [Lib.toList_data]; exact (fun e => by rw [e, nameB_nil] at x1; cases x1)
    have kb : (b.toList == []) = false := by simpa using mb
    have jb : b.toList.isEmpty = false := by simpa using mb
    have wr : r.data.toList = [] := by rw [← Lib.toList_data]; exact mr
    have pr := hrl
    rw [wr] at pr
    have HRa := fun W h => right_any op n s o b W h
    rw [zero_reg (op := op) (n := n) (o := o.data.toList) (b := b.data.toList) (s := s.data.toList) (pr) hs] at HRa
    have wo : o.data.toList = [] := by rw [← Lib.toList_data]; exact mo
    have po := hrl
    rw [wo] at po
    have HRb := fun W h => right_any op n r s b W h
    rw [zero_loc (op := op) (n := n) (r := r.data.toList) (b := b.data.toList) (s := s.data.toList) (po) hs] at HRb
    have hnb : numB op = false := by unfold numB; rw [decide_eq_false (by omega), decide_eq_false (by omega), decide_eq_false (by omega)]; rfl
    rw [hnb] at HRd
    have g1 : (op == 1) = false := beq_eq_false_iff_ne.2 (by omega)
    have g4 : (op == 4) = false := beq_eq_false_iff_ne.2 (by omega)
    have g7 : (op == 7) = false := beq_eq_false_iff_ne.2 (by omega)
    have HRa' := Lib.hid HRa
    have HRb' := Lib.hid HRb
    have HRd' := Lib.hid HRd
    clear HRd hnb hrl hs hn2 ho x1 x2 x3 x4 HRa wr pr HRb wo po
    unfold lnv at *
    go_enter Tryd.func7, Tryd.ntmps7
    go_wp2_with fail
    refine (HH.out _ (HR.out.below (below_al hB _))).mono ?_
    rintro e wk1 ⟨rfl, hb⟩
    have Hl := Lib.hid ((LnBox.at (g := w.heap.size) (by first | rfl | simp) op n r o b 23).below hb)
    replace hB := chain (below_al hB _) hb
    obtain ⟨l0, l1, l2, l3, l4⟩ := Hl.out
    have zl := lt_of_cell l0
    go_wp2_with fail
    refine (HL.out _).mono ?_
    rintro e wk2 ⟨rfl, hb⟩
    clear zl l0 l1 l2 l3 l4
    replace Hl := Lib.hid (Hl.out.below hb)
    replace hB := chain hB hb
    obtain ⟨l0, l1, l2, l3, l4⟩ := Hl.out
    have zl := lt_of_cell l0
    go_wp2_with fail
    refine (HRl.out _ (HR.out.below hB)).mono ?_
    rintro e wk3 ⟨rfl, hb⟩
    clear zl l0 l1 l2 l3 l4
    replace Hl := Lib.hid (Hl.out.below hb)
    replace hB := chain hB hb
    obtain ⟨l0, l1, l2, l3, l4⟩ := Hl.out
    have zl := lt_of_cell l0
    go_upto_region 10 with (fail)
    clear zl l0 l1 l2 l3 l4
    have Bl := ((Hl.out.alloc (.cells #[.int .i64 op, .string s, .string o, .string b, .int .i64 n] 23)).alloc (.cells #[.int .i64 op, .string r, .string s, .string b, .int .i64 n] 23)).alloc (.cells #[.int .i64 op, .string r, .string o, .string s, .int .i64 n] 23)
    have Ba := ((LnBox.at (w := wk3) (g := wk3.heap.size) rfl op n s o b 23).alloc (.cells #[.int .i64 op, .string r, .string s, .string b, .int .i64 n] 23)).alloc (.cells #[.int .i64 op, .string r, .string o, .string s, .int .i64 n] 23)
    have Bb := (LnBox.at (w := wk3.alloc (.cells #[.int .i64 op, .string s, .string o, .string b, .int .i64 n] 23)) (g := wk3.heap.size + 1) (by simp) op n r s b 23).alloc (.cells #[.int .i64 op, .string r, .string o, .string s, .int .i64 n] 23)
    have Bc := LnBox.at (w := (wk3.alloc (.cells #[.int .i64 op, .string s, .string o, .string b, .int .i64 n] 23)).alloc (.cells #[.int .i64 op, .string r, .string s, .string b, .int .i64 n] 23)) (g := wk3.heap.size + 1 + 1) (by simp) op n r o s 23
    have hB3 := below_al (below_al (below_al hB (.cells #[.int .i64 op, .string s, .string o, .string b, .int .i64 n] 23)) (.cells #[.int .i64 op, .string r, .string s, .string b, .int .i64 n] 23)) (.cells #[.int .i64 op, .string r, .string o, .string s, .int .i64 n] 23)
    clear hB Hl
    generalize hW3 : (((wk3.alloc (.cells #[.int .i64 op, .string s, .string o, .string b, .int .i64 n] 23)).alloc (.cells #[.int .i64 op, .string r, .string s, .string b, .int .i64 n] 23)).alloc (.cells #[.int .i64 op, .string r, .string o, .string s, .int .i64 n] 23)) = W3 at *
    clear hW3
    have hB := hB3
    have Hl := Lib.hid Bl
    have Hxa := Lib.hid Ba
    have Hxb := Lib.hid Bb
    have Hxc := Lib.hid Bc
    clear Bl Ba Bb Bc hB3
    obtain ⟨l0, l1, l2, l3, l4⟩ := Hl.out
    have zl := lt_of_cell l0
    obtain ⟨xa0, xa1, xa2, xa3, xa4⟩ := Hxa.out
    have zxa := lt_of_cell xa0
    obtain ⟨xb0, xb1, xb2, xb3, xb4⟩ := Hxb.out
    have zxb := lt_of_cell xb0
    obtain ⟨xc0, xc1, xc2, xc3, xc4⟩ := Hxc.out
    have zxc := lt_of_cell xc0
    go_wp2_with fail
    refine (HRa'.out _ (HR.out.below (below_al (below_al hB _) _))).mono ?_
    rintro e wk4 ⟨rfl, hb⟩
    clear zl l0 l1 l2 l3 l4
    clear zxa xa0 xa1 xa2 xa3 xa4
    clear zxb xb0 xb1 xb2 xb3 xb4
    clear zxc xc0 xc1 xc2 xc3 xc4
    replace Hl := Lib.hid (((Hl.out.alloc _).alloc _).below hb)
    replace Hxa := Lib.hid (((Hxa.out.alloc _).alloc _).below hb)
    replace Hxb := Lib.hid (((Hxb.out.alloc _).alloc _).below hb)
    replace Hxc := Lib.hid (((Hxc.out.alloc _).alloc _).below hb)
    have Hxd := Lib.hid (((LnBox.at (g := W3.heap.size) (by first | rfl | simp) op n2 r o b 23).alloc _).below hb)
    have Hxe := Lib.hid ((LnBox.at (g := W3.heap.size + 1) (by first | rfl | simp) op2 n r o b 23).below hb)
    replace hB := chain (below_al (below_al hB _) _) hb
    obtain ⟨l0, l1, l2, l3, l4⟩ := Hl.out
    have zl := lt_of_cell l0
    obtain ⟨xa0, xa1, xa2, xa3, xa4⟩ := Hxa.out
    have zxa := lt_of_cell xa0
    obtain ⟨xb0, xb1, xb2, xb3, xb4⟩ := Hxb.out
    have zxb := lt_of_cell xb0
    obtain ⟨xc0, xc1, xc2, xc3, xc4⟩ := Hxc.out
    have zxc := lt_of_cell xc0
    obtain ⟨xd0, xd1, xd2, xd3, xd4⟩ := Hxd.out
    have zxd := lt_of_cell xd0
    obtain ⟨xe0, xe1, xe2, xe3, xe4⟩ := Hxe.out
    have zxe := lt_of_cell xe0
    go_wp2_with fail
    refine (HRb'.out _ (HR.out.below hB)).mono ?_
    rintro e wk5 ⟨rfl, hb⟩
    clear zl l0 l1 l2 l3 l4
    clear zxa xa0 xa1 xa2 xa3 xa4
    clear zxb xb0 xb1 xb2 xb3 xb4
    clear zxc xc0 xc1 xc2 xc3 xc4
    clear zxd xd0 xd1 xd2 xd3 xd4
    clear zxe xe0 xe1 xe2 xe3 xe4
    replace Hl := Lib.hid (Hl.out.below hb)
    replace Hxa := Lib.hid (Hxa.out.below hb)
    replace Hxb := Lib.hid (Hxb.out.below hb)
    replace Hxc := Lib.hid (Hxc.out.below hb)
    replace Hxd := Lib.hid (Hxd.out.below hb)
    replace Hxe := Lib.hid (Hxe.out.below hb)
    replace hB := chain hB hb
    obtain ⟨l0, l1, l2, l3, l4⟩ := Hl.out
    have zl := lt_of_cell l0
    obtain ⟨xa0, xa1, xa2, xa3, xa4⟩ := Hxa.out
    have zxa := lt_of_cell xa0
    obtain ⟨xb0, xb1, xb2, xb3, xb4⟩ := Hxb.out
    have zxb := lt_of_cell xb0
    obtain ⟨xc0, xc1, xc2, xc3, xc4⟩ := Hxc.out
    have zxc := lt_of_cell xc0
    obtain ⟨xd0, xd1, xd2, xd3, xd4⟩ := Hxd.out
    have zxd := lt_of_cell xd0
    obtain ⟨xe0, xe1, xe2, xe3, xe4⟩ := Hxe.out
    have zxe := lt_of_cell xe0
    go_wp2_with fail
    refine (HRd'.out _ (HR.out.below hB)).mono ?_
    rintro e wk6 ⟨rfl, hb⟩
    clear zl l0 l1 l2 l3 l4
    clear zxa xa0 xa1 xa2 xa3 xa4
    clear zxb xb0 xb1 xb2 xb3 xb4
    clear zxc xc0 xc1 xc2 xc3 xc4
    clear zxd xd0 xd1 xd2 xd3 xd4
    clear zxe xe0 xe1 xe2 xe3 xe4
    replace Hl := Lib.hid (Hl.out.below hb)
    replace Hxa := Lib.hid (Hxa.out.below hb)
    replace Hxb := Lib.hid (Hxb.out.below hb)
    replace Hxc := Lib.hid (Hxc.out.below hb)
    replace Hxd := Lib.hid (Hxd.out.below hb)
    replace Hxe := Lib.hid (Hxe.out.below hb)
    replace hB := chain hB hb
    obtain ⟨l0, l1, l2, l3, l4⟩ := Hl.out
    have zl := lt_of_cell l0
    obtain ⟨xa0, xa1, xa2, xa3, xa4⟩ := Hxa.out
    have zxa := lt_of_cell xa0
    obtain ⟨xb0, xb1, xb2, xb3, xb4⟩ := Hxb.out
    have zxb := lt_of_cell xb0
    obtain ⟨xc0, xc1, xc2, xc3, xc4⟩ := Hxc.out
    have zxc := lt_of_cell xc0
    obtain ⟨xd0, xd1, xd2, xd3, xd4⟩ := Hxd.out
    have zxd := lt_of_cell xd0
    obtain ⟨xe0, xe1, xe2, xe3, xe4⟩ := Hxe.out
    have zxe := lt_of_cell xe0
    go_wp2
    go_ret
    exact ⟨rfl, hB⟩
end Go.Proofs.YtgfhigcmcanbaaaDoor
