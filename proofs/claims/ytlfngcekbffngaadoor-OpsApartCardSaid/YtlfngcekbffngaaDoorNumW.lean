/-
  num.Text and num.Get, over any world.
-/
import Derived.Test.YtlfngcekbffngaaDoorKit
namespace Go.Proofs.YtlfngcekbffngaaDoor
open Go.RowKit
set_option linter.unusedVariables false
set_option maxHeartbeats 1000000 in
set_option maxRecDepth 100000 in
theorem ndigit_any (n : Int) (w : World) (h0 : 0 ≤ n) (h1 : n ≤ 9) :
    Calls Tryd.prog 50 #[.int .u64 n] w fun e w' => e = .returned (.int .u8 (48 + n)) ∧ w = w' := by
  go_enter Tryd.func50, Tryd.ntmps50
  go_wp2
  go_ret
  exact ⟨rfl, rfl⟩
set_option maxHeartbeats 1000000 in
set_option maxRecDepth 100000 in
theorem cutp_yes (s : ByteArray) (w : World) (h1 : 1 ≤ (s.size : Int)) (h2 : ((s.extract 0 1).toList == [45]) = true) :
    Calls Tryd.prog 61 #[.string s, .string ⟨#[45]⟩] w fun e w' => e = .returned (.tuple #[.string (s.extract 1 s.size), .bool true]) ∧ w = w' := by
  go_enter Tryd.func61, Tryd.ntmps61
  go_wp2
  go_ret2
  exact ⟨rfl, rfl⟩
set_option maxHeartbeats 1000000 in
set_option maxRecDepth 100000 in
theorem cutp_no (s : ByteArray) (w : World) (h1 : 1 ≤ (s.size : Int)) (h2 : ((s.extract 0 1).toList == [45]) = false) :
    Calls Tryd.prog 61 #[.string s, .string ⟨#[45]⟩] w fun e w' => e = .returned (.tuple #[.string s, .bool false]) ∧ w = w' := by
  go_enter Tryd.func61, Tryd.ntmps61
  go_wp2
  go_ret2
  exact ⟨rfl, rfl⟩
set_option maxHeartbeats 1000000 in
set_option maxRecDepth 100000 in
theorem cutp_nil (s : ByteArray) (w : World) (h1 : (s.size : Int) < 1) :
    Calls Tryd.prog 61 #[.string s, .string ⟨#[45]⟩] w fun e w' => e = .returned (.tuple #[.string s, .bool false]) ∧ w = w' := by
  go_enter Tryd.func61, Tryd.ntmps61
  go_wp2
  go_ret2
  exact ⟨rfl, rfl⟩
def cutpS (s : ByteArray) : ByteArray := if s.data.toList.head? = some 45 then s.extract 1 s.size else s
def cutpB (s : ByteArray) : Bool := decide (s.data.toList.head? = some 45)
theorem cutp_any (s : ByteArray) (w : World) :
    Calls Tryd.prog 61 #[.string s, .string ⟨#[45]⟩] w fun e w' => e = .returned (.tuple #[.string (cutpS s), .bool (cutpB s)]) ∧ w = w' := by
  have hx : (s.extract 0 1).toList = s.data.toList.take 1 := by
    rw [ByteArray.toList_eq]; rw [Lib.extract_data]; simp
  by_cases h1 : (s.size : Int) < 1
  · have : s.data.toList = [] := by
      have := Lib.size_eq s
      exact List.eq_nil_of_length_eq_zero (by omega)
    have e1 : cutpS s = s := by simp [cutpS, this]
    have e2 : cutpB s = false := by simp [cutpB, this]
    rw [e1, e2]
    exact cutp_nil s w h1
  · have hc : s.data.toList ≠ [] := by
      intro e; have := Lib.size_eq s; rw [e, List.length_nil] at this; omega
    obtain ⟨c, r, e⟩ := List.exists_cons_of_ne_nil hc
    by_cases h2 : c = 45
    · subst h2
      have e1 : cutpS s = s.extract 1 s.size := by simp [cutpS, e]
      have e2 : cutpB s = true := by simp [cutpB, e]
      rw [e1, e2]
      exact cutp_yes s w (by omega) (by rw [hx, e]; simp)
    · have e1 : cutpS s = s := by simp [cutpS, e, h2]
      have e2 : cutpB s = false := by simp [cutpB, e, h2]
      rw [e1, e2]
      exact cutp_no s w (by omega) (by rw [hx, e]; simp [h2])
theorem cutpS_size (s : ByteArray) : (cutpS s).size ≤ s.size := by
  unfold cutpS; split
  · simp
  · exact Nat.le_refl _
theorem made_cut (s : ByteArray) : NumM.made s.data.toList = if cutpB s = true then wrap64 (-NumM.madeD (cutpS s).data.toList) else NumM.madeD (cutpS s).data.toList := by
  unfold cutpB cutpS
  by_cases h : s.data.toList.head? = some 45
  · simp only [h, decide_true, if_true]
    have e : s.data.toList = 45 :: (s.extract 1 s.size).data.toList := by
      rw [Lib.extract_data, Lib.size_eq]
      cases e : s.data.toList with
      | nil => rw [e] at h; cases h
      | cons c r =>
        rw [e] at h
        simp only [List.head?_cons, Option.some.injEq] at h
        subst h
        simp
    conv => lhs; rw [e]
    exact NumM.made_neg _
  · rw [if_neg h, if_neg (by simpa using h)]
    exact NumM.made_pos _ h
set_option maxHeartbeats 1000000 in
set_option maxRecDepth 100000 in
theorem made_any (s : ByteArray) (w : World) (hs : s.size ≤ maxLen) :
    Calls Tryd.prog 55 #[.string s] w fun e w' => e = .returned (.int .i64 (NumM.made s.data.toList)) ∧ w = w' := by
  unfold maxLen at hs
  have hs2 := cutpS_size s
  have HM := Lib.hid (made_cut s)
  go_enter Tryd.func55, Tryd.ntmps55
  go_wp2_with (go_at_call 61; refine (cutp_any _ _).mono ?_; rintro e w' ⟨rfl, rfl⟩)
  generalize cutpS s = d at *
  generalize cutpB s = b at *
  go_loop [5, 14] (fun n i => ∃ k : Nat, k ≤ d.size ∧ i = .int .i64 k ∧ n = .int .i64 (NumM.madeD (d.data.toList.take k))) (fun _ i => d.size - (intOf i).toNat)
  case atStart => exact ⟨0, Nat.zero_le _, rfl, rfl⟩
  case round =>
    obtain ⟨k, hk, rfl, rfl⟩ := hrel
    by_cases hlt : k < d.size
    · have HT := Lib.hid (take_snoc d k hlt)
      go_wp2
      go_round
      case rel => exact ⟨k + 1, by omega, by go_num, by rw [HT.out, NumM.madeD_snoc]; rfl⟩
      case measure => simp [intOf]; omega
    · obtain rfl : d.size = k := by omega
      have ht : d.data.toList.take d.size = d.data.toList := List.take_of_length_le (by rw [← Lib.size_eq]; exact Nat.le_refl _)
      rw [ht]
      cases b
      all_goals
        go_wp2
        go_ret
        exact ⟨ret_int (by rw [HM.out]; rfl), rfl⟩
/-- The array of the digits as they stand. -/
def NRow (w : World) (b : Nat) (xs : List UInt8) : Prop := ∀ i, i < 19 → w.cell? ⟨b, i, none⟩ = some (.int .u8 ((xs.getD i 0).toNat : Int)) ∧ w.frozen? ⟨b, i, none⟩ = false
def NTRel (w : World) (R : Nat) (a r : Nat) (xs : List UInt8) (wr : World) : Prop :=
  r < 10 ^ (a + 1) ∧ xs.length = 19 ∧ NumM.digs r ++ xs.drop (a + 1) = NumM.digs R ∧ NRow wr w.heap.size xs ∧ Below w.heap.size w wr ∧ w.heap.size < wr.heap.size
theorem pow_step (r a : Nat) (h : r < 10 ^ (a + 1)) (h9 : 9 < r) : 1 ≤ a ∧ r / 10 < 10 ^ (a - 1 + 1) := by
  have ha : a ≠ 0 := by intro e; subst e; simp at h; omega
  refine ⟨by omega, ?_⟩
  rw [show a - 1 + 1 = a by omega, Nat.div_lt_iff_lt_mul (by omega)]
  rwa [Nat.pow_succ] at h
theorem row_set {w : World} {b a : Nat} {xs : List UInt8} (h : NRow w b xs) (ha : a ≤ 18) (hl : xs.length = 19) (r : Nat) (hr : r ≤ 9) :
    NRow (w.setCell ⟨b, a, none⟩ (.int .u8 (48 + (r : Int)))) b (xs.set a (UInt8.ofNat (48 + r))) := by
  intro i hi
  refine ⟨?_, by rw [World.frozen?_setCell]; exact (h i hi).2⟩
  by_cases e : i = a
  · subst e
    rw [World.cell?_setCell_same _ _ _ (h i hi).1]
    simp only [List.getD, List.getElem?_set_self (show i < xs.length by omega), Option.getD_some]
    rw [NumM.u8_toNat_small r hr]; rfl
  · rw [World.cell?_setCell_other _ _ _ _ (by intro k; injection k with _ k2; exact e k2.symm), (h i hi).1]
    simp only [List.getD, List.getElem?_set_ne (Ne.symm e)]
theorem trel_set {w wr : World} {R a r : Nat} {xs : List UInt8} (h : NTRel w R a r xs wr) (ha : a ≤ 18) (d : Nat) (hd : d ≤ 9) (r' a' : Nat) (h1 : r' < 10 ^ (a' + 1))
    (h2 : NumM.digs r' ++ (xs.set a (UInt8.ofNat (48 + d))).drop (a' + 1) = NumM.digs R) :
    NTRel w R a' r' (xs.set a (UInt8.ofNat (48 + d))) (wr.setCell ⟨w.heap.size, a, none⟩ (.int .u8 (48 + (d : Int)))) := by
  obtain ⟨g1, g2, g3, g4, g5, g6⟩ := h
  refine ⟨h1, by simp [g2], h2, row_set g4 ha g2 d hd, g5.setCell (Nat.le_refl _) _, by simpa [World.setCell] using g6⟩
theorem trel_step {w wr : World} {R a r : Nat} {xs : List UInt8} (h : NTRel w R a r xs wr) (ha : a ≤ 18) (h9 : 9 < r) (hr : r < 10 ^ 20) :
    NTRel w R (a - 1) (r / 10) (xs.set a (UInt8.ofNat (48 + r % 10))) (wr.setCell ⟨w.heap.size, a, none⟩ (.int .u8 (48 + (r : Int) % 10))) := by
  have hp := pow_step r a h.1 h9
  have := trel_set h ha (r % 10) (by omega) (r / 10) (a - 1) hp.2 (by
    rw [← h.2.2.1, NumM.digs_big r (by omega) hr, List.append_assoc, show a - 1 + 1 = a by omega]
    congr 1
    rw [List.drop_set]
    rw [if_neg (by omega), Nat.sub_self]
    have hl := h.2.1
    rw [List.drop_eq_getElem_cons (show a < xs.length by omega)]
    rfl)
  exact this
/-- The digits are all there: what the array has from the last place on. -/
theorem trel_last {w wr : World} {R a r : Nat} {xs : List UInt8} (h : NTRel w R a r xs wr) (ha : a ≤ 18) (h9 : r ≤ 9) :
    (xs.set a (UInt8.ofNat (48 + r))).drop a = NumM.digs R := by
  rw [← h.2.2.1, NumM.digs_small r h9, List.drop_set, if_neg (by omega), Nat.sub_self]
  have hl := h.2.1
  rw [List.drop_eq_getElem_cons (show a < xs.length by omega)]
  rfl
theorem row_bytes {w : World} {b a : Nat} {xs : List UInt8} (h : NRow w b xs) (ha : a ≤ 18) (hl : xs.length = 19) (P : Program) (src e dst : TypeId)
    (hs : P.underlying src = some (.slice e)) (he : P.underlying e = some (.int .u8)) (hd : P.underlying dst = some .string) (cap : Nat) :
    (convert src dst (.slice (some ⟨b, a, none⟩) (19 - a) cap)).run P w = .ok (.string ⟨(xs.drop a).toArray⟩) w := by
  have := run_convert_bytes_arg (P := P) w src e hs he b a (19 - a) cap ((xs.drop a).map fun x => (x.toNat : Int)) (by simp [hl]) (fun i hi => by
    rw [(h (a + i) (by omega)).1]
    congr 2
    simp only [List.getD, List.getElem?_map, List.getElem?_drop]
    rw [List.getElem?_eq_getElem (show a + i < xs.length by omega)]
    simp) dst hd
  rw [this]
  congr 2
  unfold strOfNums
  congr 1
  rw [List.map_map]
  congr 1
  conv => rhs; rw [← List.map_id (xs.drop a)]
  apply List.map_congr_left
  intro x _
  simp
theorem slice_row (w : World) (b a : Nat) (h : a ≤ 18) :
    (Instr.sliceAt 86 (.pointer (some ⟨b, 0, none⟩)) (some (.int .i64 (a : Int))) none none).run Tryd.prog w = .ok (.slice (some ⟨b, a, none⟩) (19 - a) (19 - a)) w := by
  have hl : Tryd.prog.arrayLen 86 = 19 := by kernel_rfl
  have hz : ∀ w, (Go.sizeOf (Tryd.prog.elem 86)).run Tryd.prog w = .ok 1 w := fun w => by kernel_rfl
  rw [run_sliceAt_array_l w 86 _ (by kernel_rfl) .i64 (a : Int) (by omega) (by rw [hl]; omega), hz, hl]
  simp only [Result.andThen, slicedAt, Addr.add, Int.toNat_natCast]
  rw [if_neg (by omega)]
  have e : (if ((⟨b, 0, none⟩ : Addr).spot.isSome) = true then (⟨b, 0, none⟩ : Addr) else ⟨b, 0 + a * 1, none⟩) = ⟨b, a, none⟩ := by simp
  first | exact congrArg (fun x => Result.ok (Value.slice (some x) (19 - a) (19 - a)) w) e | (simp; omega)
set_option maxHeartbeats 1000000 in
set_option maxRecDepth 100000 in
theorem text_neg (n : Int) (w : World) (h0 : n < 0) (h1 : -9223372036854775808 ≤ n) :
    Calls Tryd.prog 38 #[.int .i64 n] w fun e w' => e = .returned (.string ⟨(NumM.text n).toArray⟩) ∧ Below w.heap.size w w' := by
  go_enter Tryd.func38, Tryd.ntmps38
  go_wp2
  have hE : IntKind.u64.wrap (-IntKind.u64.wrap n) = (n.natAbs : Int) := by
    simp [IntKind.wrap, IntKind.bits, IntKind.signed]; omega
  have hR : n.natAbs ≤ 9223372036854775808 := by omega
  have hX := Lib.hid (show NumM.text n = 45 :: NumM.digs n.natAbs by unfold NumM.text; rw [if_pos h0])
  rw [hE]
  clear hE
  generalize n.natAbs = R at *
  go_loopw [4, 5] (fun at_ rest wr => ∃ (a r : Nat) (xs : List UInt8), a ≤ 18 ∧ r ≤ R ∧ at_ = .int .i64 a ∧ rest = .int .u64 r ∧ NTRel w R a r xs wr) (fun at_ _ _ => (intOf at_).toNat)
  case atStart =>
    refine ⟨18, R, List.replicate 19 0, by omega, by omega, rfl, rfl, by omega, rfl, by simp, ?_, (Below.refl _ _).alloc (Nat.le_refl _) _, by simp⟩
    intro i hi
    rw [World.cell?_alloc_at _ _ _ _ rfl, World.frozen?_alloc_at _ _ _ _ rfl]
    refine ⟨?_, rfl⟩
    have h1 : ((List.replicate 19 (Value.int IntKind.u8 0)).toArray)[i]? = some (.int .u8 0) := by
      rw [List.getElem?_toArray, List.getElem?_replicate, if_pos hi]
    have h2 : (List.replicate 19 (0 : UInt8)).getD i 0 = 0 := by
      rw [List.getD_eq_getElem?_getD, List.getElem?_replicate, if_pos hi]; rfl
    rw [h2]
    exact h1
  case round =>
    obtain ⟨a, r, xs, ha, hrR, rfl, rfl, hT⟩ := hrel
    have hc := (hT.2.2.2.1 a (by omega)).1
    have hf := (hT.2.2.2.1 a (by omega)).2
    by_cases h9 : 9 < r
    · have hp := (pow_step r a hT.1 h9).1
      go_wp2_with (go_at_call 50; refine (ndigit_any _ _ (by omega) (by omega)).mono ?_; rintro e w' ⟨rfl, rfl⟩)
      go_roundw
      case rel => exact ⟨a - 1, r / 10, _, by omega, by omega, by go_num, by go_num, trel_step hT ha h9 (by omega)⟩
      case measure => simp [intOf]; omega
    · have hS := row_set hT.2.2.2.1 ha hT.2.1 r (by omega)
      have hl := hT.2.1
      have hY := Lib.hid (trel_last hT ha (by omega))
      have hsl := fun W => slice_row W w.heap.size a ha
      have hB := (hT.2.2.2.2.1.setCell (p := ⟨w.heap.size, a, none⟩) (Nat.le_refl _) (.int .u8 (48 + (r : Int))))
      have hcv := row_bytes hS ha (by simp [hl]) Tryd.prog 85 5 9 (by kernel_rfl) (by kernel_rfl) (by kernel_rfl) (19 - a)
      rw [hY.out] at hcv
      have hdl := NumM.digs_len R (by omega)
      have hcat := fun W => run_string_add_sum (P := Tryd.prog) (w := W) ⟨#[45]⟩ ⟨(NumM.digs R).toArray⟩ (by simp [ByteArray.size]; omega)
      clear hT hS hl hdl
      go_wp2_with (go_at_call 50; refine (ndigit_any _ _ (by omega) (by omega)).mono ?_; rintro e w' ⟨rfl, rfl⟩)
      go_ret
      exact ⟨by rw [hX.out]; rfl, hB⟩
set_option maxHeartbeats 1000000 in
set_option maxRecDepth 100000 in
theorem text_pos (R : Nat) (w : World) (hR : R ≤ 9223372036854775807) :
    Calls Tryd.prog 38 #[.int .i64 R] w fun e w' => e = .returned (.string ⟨(NumM.text R).toArray⟩) ∧ Below w.heap.size w w' := by
  go_enter Tryd.func38, Tryd.ntmps38
  go_wp2
  have hX := Lib.hid (show NumM.text R = NumM.digs R by unfold NumM.text; rw [if_neg (by omega), Int.natAbs_natCast])
  go_loopw [4, 5] (fun at_ rest wr => ∃ (a r : Nat) (xs : List UInt8), a ≤ 18 ∧ r ≤ R ∧ at_ = .int .i64 a ∧ rest = .int .u64 r ∧ NTRel w R a r xs wr) (fun at_ _ _ => (intOf at_).toNat)
  case atStart =>
    refine ⟨18, R, List.replicate 19 0, by omega, by omega, rfl, rfl, by omega, rfl, by simp, ?_, (Below.refl _ _).alloc (Nat.le_refl _) _, by simp⟩
    intro i hi
    rw [World.cell?_alloc_at _ _ _ _ rfl, World.frozen?_alloc_at _ _ _ _ rfl]
    refine ⟨?_, rfl⟩
    have h1 : ((List.replicate 19 (Value.int IntKind.u8 0)).toArray)[i]? = some (.int .u8 0) := by
      rw [List.getElem?_toArray, List.getElem?_replicate, if_pos hi]
    have h2 : (List.replicate 19 (0 : UInt8)).getD i 0 = 0 := by
      rw [List.getD_eq_getElem?_getD, List.getElem?_replicate, if_pos hi]; rfl
    rw [h2]
    exact h1
  case round =>
    obtain ⟨a, r, xs, ha, hrR, rfl, rfl, hT⟩ := hrel
    have hc := (hT.2.2.2.1 a (by omega)).1
    have hf := (hT.2.2.2.1 a (by omega)).2
    by_cases h9 : 9 < r
    · have hp := (pow_step r a hT.1 h9).1
      go_wp2_with (go_at_call 50; refine (ndigit_any _ _ (by omega) (by omega)).mono ?_; rintro e w' ⟨rfl, rfl⟩)
      go_roundw
      case rel => exact ⟨a - 1, r / 10, _, by omega, by omega, by go_num, by go_num, trel_step hT ha h9 (by omega)⟩
      case measure => simp [intOf]; omega
    · have hS := row_set hT.2.2.2.1 ha hT.2.1 r (by omega)
      have hl := hT.2.1
      have hY := Lib.hid (trel_last hT ha (by omega))
      have hsl := fun W => slice_row W w.heap.size a ha
      have hB := (hT.2.2.2.2.1.setCell (p := ⟨w.heap.size, a, none⟩) (Nat.le_refl _) (.int .u8 (48 + (r : Int))))
      have hcv := row_bytes hS ha (by simp [hl]) Tryd.prog 85 5 9 (by kernel_rfl) (by kernel_rfl) (by kernel_rfl) (19 - a)
      rw [hY.out] at hcv
      have hdl := NumM.digs_len R (by omega)
      have hcat := fun W => run_string_add_sum (P := Tryd.prog) (w := W) ⟨#[]⟩ ⟨(NumM.digs R).toArray⟩ (by simp [ByteArray.size]; omega)
      clear hT hS hl hdl
      go_wp2_with (go_at_call 50; refine (ndigit_any _ _ (by omega) (by omega)).mono ?_; rintro e w' ⟨rfl, rfl⟩)
      go_ret
      exact ⟨by rw [hX.out]; first | rfl | exact congrArg (fun x => Ending.returned (Value.string x)) (nil_cat _), hB⟩
theorem text_any (n : Int) (w : World) (h : NumM.inR n) :
    Calls Tryd.prog 38 #[.int .i64 n] w fun e w' => e = .returned (.string ⟨(NumM.text n).toArray⟩) ∧ Below w.heap.size w w' := by
  unfold NumM.inR at h
  by_cases h0 : n < 0
  · exact text_neg n w h0 h.1
  · obtain ⟨R, rfl⟩ := Int.eq_ofNat_of_zero_le (show 0 ≤ n by omega)
    exact text_pos R w (by omega)
/-- num.Get. -/
theorem get_any (s : ByteArray) (w : World) (hs : s.size ≤ maxLen) :
    Calls Tryd.prog 44 #[.string s] w fun e w' => e = .returned (.tuple #[.int .i64 (NumM.get s.data.toList).1, .bool (NumM.get s.data.toList).2]) ∧ Below w.heap.size w w' := by
  have hr := NumM.made_range s.data.toList
  by_cases hq : NumM.text (NumM.made s.data.toList) = s.data.toList
  · have hg := Lib.hid (show NumM.get s.data.toList = (NumM.made s.data.toList, true) by unfold NumM.get; rw [if_pos hq])
    have hb : ((NumM.text (NumM.made s.data.toList)) == s.toList) = true := by
      rw [Lib.toList_data, beq_dec]; exact decide_eq_true hq
    clear hq
    go_enter Tryd.func44, Tryd.ntmps44
    go_wp2_with (first | (go_at_call 55; refine (made_any _ _ hs).mono ?_; rintro e w' ⟨rfl, rfl⟩) | (go_at_call 38; refine (text_any _ _ hr).mono ?_; rintro e w' ⟨rfl, hB⟩))
    go_ret2
    exact ⟨by rw [hg.out]; rfl, hB⟩
  · have hg := Lib.hid (show NumM.get s.data.toList = (0, false) by unfold NumM.get; rw [if_neg hq])
    have hb : ((NumM.text (NumM.made s.data.toList)) == s.toList) = false := by
      rw [Lib.toList_data, beq_dec]; exact decide_eq_false hq
    clear hq
    go_enter Tryd.func44, Tryd.ntmps44
    go_wp2_with (first | (go_at_call 55; refine (made_any _ _ hs).mono ?_; rintro e w' ⟨rfl, rfl⟩) | (go_at_call 38; refine (text_any _ _ hr).mono ?_; rintro e w' ⟨rfl, hB⟩))
    go_ret2
    exact ⟨by rw [hg.out]; rfl, hB⟩
end Go.Proofs.YtlfngcekbffngaaDoor
