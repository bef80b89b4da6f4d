/-
  the document's Text and Get of layer 1, over any world.
-/
import Derived.Test.YtmpjcfehabnhgaaDoorK00
namespace Go.Proofs.YtmpjcfehabnhgaaDoor
open Go.RowKit
set_option linter.unusedVariables false
theorem text_zero_l : NumM.text 0 = [48] := by decide +kernel
/-- What the loop of the document's Text holds. -/
def RRel (w : World) (R m : Nat) (s : List UInt8) (wr : World) : Prop :=
  m ≤ R ∧ s.length ≤ 19 ∧ (m ≠ 0 → NumM.digs m ++ s = NumM.digs R) ∧ (m = 0 → s = NumM.digs R) ∧ Below w.heap.size w wr
/-- The last digit. -/
def dg (m : Nat) : UInt8 := UInt8.ofNat (48 + m % 10)
theorem rrel_step {w wr : World} {R m : Nat} {l : List UInt8} (h : RRel w R m l wr) (hm : m ≠ 0) (hR : R < 10 ^ 19) {w2 : World} (hB : Below w.heap.size w w2) :
    RRel w R (m / 10) (dg m :: l) w2 := by
  obtain ⟨g1, g2, g3, g4, g5⟩ := h
  have e := g3 hm
  have hl := NumM.digs_len R hR
  by_cases h9 : m ≤ 9
  · have hz : m / 10 = 0 := by omega
    have e2 : dg m :: l = NumM.digs R := by
      rw [← e, NumM.digs_small m h9, dg, show m % 10 = m by omega]; rfl
    exact ⟨by omega, by rw [e2]; exact hl, fun k => absurd hz k, fun _ => e2, hB⟩
  · have e2 : NumM.digs (m / 10) ++ dg m :: l = NumM.digs R := by
      rw [← e, NumM.digs_big m h9 (by omega), List.append_assoc]; rfl
    refine ⟨by omega, ?_, fun _ => e2, fun k => by omega, hB⟩
    rw [← e2] at hl
    simp only [List.length_append] at hl
    omega
theorem u8_48 (m : Nat) : (48 + (m : Int) % 10) = ((dg m).toNat : Int) := by
  rw [dg, NumM.u8_toNat_small _ (by omega)]; omega
set_option maxHeartbeats 1000000 in
set_option maxRecDepth 100000 in
theorem rtext_pos (R : Nat) (w : World) (hR : R ≤ 9223372036854775807) (h0 : 0 < R) :
    Calls Tryd.prog 21 #[.int .i64 R] w fun e w' => e = .returned (.string ⟨(NumM.text R).toArray⟩) ∧ Below w.heap.size w w' := by
  have hz : ((R : Int) == 0) = false := beq_eq_false_iff_ne.2 (by omega)
  have hX := Lib.hid (show NumM.text R = NumM.digs R by unfold NumM.text; rw [if_neg (by omega), Int.natAbs_natCast])
  go_enter Tryd.func21, Tryd.ntmps21
  go_wp2
  go_loopw [3, 4] (fun s k wr => ∃ (m : Nat) (l : List UInt8), k = .int .i64 m ∧ s = .string ⟨l.toArray⟩ ∧ RRel w R m l wr) (fun _ k _ => (intOf k).toNat)
  case atStart => exact ⟨R, [], rfl, rfl, Nat.le_refl _, by simp, fun _ => by simp, fun h => by omega, Below.refl _ _⟩
  case round =>
    obtain ⟨m, l, rfl, rfl, hT⟩ := hrel
    have g1 := hT.1
    have g2 := hT.2.1
    by_cases hm : m = 0
    · subst hm
      have hl := Lib.hid (hT.2.2.2.1 rfl)
      have hB := hT.2.2.2.2
      clear hT
      go_wp2
      go_ret
      exact ⟨by rw [hX.out, ← hl.out]; rfl, hB⟩
    · have hm1 : (((m : Int)) != 0) = true := by rw [bne_iff_ne]; omega
      have hm2 : ((m : Int)) ≤ 9223372036854775807 := by omega
      have hcv := conv_one' Tryd.prog 66 5 9 (by kernel_rfl) (by kernel_rfl) (by kernel_rfl) _ _ (u8_48 m) 5
      have hcat := fun W => run_string_add_sum (P := Tryd.prog) (w := W) ⟨#[dg m]⟩ ⟨l.toArray⟩ (by simp [ByteArray.size]; omega)
      have hN := fun o => Lib.hid (rrel_step hT hm (by omega) (hT.2.2.2.2.alloc hT.2.2.2.2.size o))
      clear hT
      go_wp2
      go_roundw
      case rel => exact ⟨m / 10, dg m :: l, by go_num, by rw [one_cat], (hN _).out⟩
      case measure => simp [intOf]; omega
set_option maxHeartbeats 1000000 in
set_option maxRecDepth 100000 in
theorem rtext_neg (R : Nat) (w : World) (hR : R ≤ 9223372036854775808) (h0 : 0 < R) :
    Calls Tryd.prog 21 #[.int .i64 (-(R : Int))] w fun e w' => e = .returned (.string ⟨(NumM.text (-(R : Int))).toArray⟩) ∧ Below w.heap.size w w' := by
  have hz : ((-(R : Int)) == 0) = false := beq_eq_false_iff_ne.2 (by omega)
  have hX := Lib.hid (show NumM.text (-(R : Int)) = 45 :: NumM.digs R by unfold NumM.text; rw [if_pos (by omega)]; rw [Int.natAbs_neg, Int.natAbs_natCast])
  go_enter Tryd.func21, Tryd.ntmps21
  go_wp2
  go_loopw [3, 4] (fun s k wr => ∃ (m : Nat) (l : List UInt8), k = .int .i64 (-(m : Int)) ∧ s = .string ⟨l.toArray⟩ ∧ RRel w R m l wr) (fun _ k _ => (-(intOf k)).toNat)
  case atStart => exact ⟨R, [], rfl, rfl, Nat.le_refl _, by simp, fun _ => by simp, fun h => by omega, Below.refl _ _⟩
  case round =>
    obtain ⟨m, l, rfl, rfl, hT⟩ := hrel
    have g1 := hT.1
    have g2 := hT.2.1
    by_cases hm : m = 0
    · subst hm
      have hl := Lib.hid (hT.2.2.2.1 rfl)
      have hB := hT.2.2.2.2
      have hcat := fun W => run_string_add_sum (P := Tryd.prog) (w := W) ⟨#[45]⟩ ⟨l.toArray⟩ (by simp [ByteArray.size]; omega)
      clear hT
      go_wp2
      go_ret
      exact ⟨by rw [hX.out, ← hl.out]; rfl, hB⟩
    · have hm1 : ((-(m : Int)) != 0) = true := by rw [bne_iff_ne]; omega
      have hm2 : ((m : Int)) ≤ 9223372036854775808 := by omega
      have hm3 : 1 ≤ (m : Int) := by omega
      have hcv := conv_one' Tryd.prog 66 5 9 (by kernel_rfl) (by kernel_rfl) (by kernel_rfl) _ _ (u8_48 m) 5
      have hcat := fun W => run_string_add_sum (P := Tryd.prog) (w := W) ⟨#[dg m]⟩ ⟨l.toArray⟩ (by simp [ByteArray.size]; omega)
      have hN := fun o => Lib.hid (rrel_step hT hm (by omega) (hT.2.2.2.2.alloc hT.2.2.2.2.size o))
      have hmod : (-(m : Int)).tmod 10 = -((m : Int) % 10) := by rw [Int.neg_tmod, Int.tmod_eq_emod_of_nonneg (by omega)]
      have hdiv : (-(m : Int)).tdiv 10 = -((m : Int) / 10) := by rw [Int.neg_tdiv, Int.tdiv_eq_ediv_of_nonneg (by omega)]
      clear hT
      by_cases h10 : 0 < (m : Int) % 10
      · go_wp2
        go_roundw
        case rel => exact ⟨m / 10, dg m :: l, by go_num, by rw [one_cat], (hN _).out⟩
        case measure => simp [intOf]; omega
      · have hge := Int.emod_nonneg (m : Int) (show (10 : Int) ≠ 0 by decide)
        have hcc : 48 + -((m : Int) % 10) = ((dg m).toNat : Int) := by
          rw [← u8_48 m]; clear hmod hdiv; omega
        have hcv := conv_one' Tryd.prog 66 5 9 (by kernel_rfl) (by kernel_rfl) (by kernel_rfl) (dg m) _ hcc 5
        clear hcc
        go_wp2
        go_roundw
        case rel => exact ⟨m / 10, dg m :: l, by go_num, by rw [one_cat], (hN _).out⟩
        case measure => simp [intOf]; omega
theorem rtext_zero (w : World) :
    Calls Tryd.prog 21 #[.int .i64 0] w fun e w' => e = .returned (.string ⟨(NumM.text 0).toArray⟩) ∧ Below w.heap.size w w' := by
  rw [text_zero_l]
  go_enter Tryd.func21, Tryd.ntmps21
  go_wp2
  go_ret
  exact ⟨rfl, Below.refl _ _⟩
theorem rtext_any (n : Int) (w : World) (h : NumM.inR n) :
    Calls Tryd.prog 21 #[.int .i64 n] w fun e w' => e = .returned (.string ⟨(NumM.text n).toArray⟩) ∧ Below w.heap.size w w' := by
  unfold NumM.inR at h
  by_cases h0 : n = 0
  · subst h0; exact rtext_zero w
  · by_cases h1 : n < 0
    · obtain ⟨R, hR⟩ := Int.eq_ofNat_of_zero_le (show 0 ≤ -n by omega)
      obtain rfl : n = -(R : Int) := by omega
      exact rtext_neg R w (by omega) (by omega)
    · obtain ⟨R, rfl⟩ := Int.eq_ofNat_of_zero_le (show 0 ≤ n by omega)
      exact rtext_pos R w (by omega) (by omega)
def rsp (n : Int) (c : UInt8) : Int := wrap64 (wrap64 (n * 10) + ((c.toNat : Int) - 48))
def rsn (n : Int) (c : UInt8) : Int := wrap64 (wrap64 (n * 10) + -((c.toNat : Int) - 48))
def rmp (l : List UInt8) : Int := l.foldl rsp 0
def rmn (l : List UInt8) : Int := l.foldl rsn 0
theorem rmp_snoc (l : List UInt8) (c : UInt8) : rmp (l ++ [c]) = rsp (rmp l) c := by unfold rmp; rw [List.foldl_append, List.foldl_cons, List.foldl_nil]
theorem rmn_snoc (l : List UInt8) (c : UInt8) : rmn (l ++ [c]) = rsn (rmn l) c := by unfold rmn; rw [List.foldl_append, List.foldl_cons, List.foldl_nil]
theorem wrap64_10' (a b : Int) : wrap64 (wrap64 (wrap64 a * 10) + b) = wrap64 (a * 10 + b) := by unfold wrap64; omega
theorem rmp_digs : ∀ n, n < 10 ^ 20 → rmp (NumM.digs n) = wrap64 n := by
  apply NumM.digs_ind
  · intro n h
    rw [NumM.digs_small n h, ← List.nil_append [_], rmp_snoc, rsp, NumM.u8_toNat_small n h]
    show wrap64 (wrap64 (0 * 10) + _) = _
    rw [NumM.wrap64_add]
    exact NumM.wrap64_congr (by omega)
  · intro n h hb ih
    rw [NumM.digs_big n h hb, rmp_snoc, ih, rsp, NumM.u8_toNat_small _ (by omega), wrap64_10']
    exact NumM.wrap64_congr (by omega)
theorem rmn_digs : ∀ n, n < 10 ^ 20 → rmn (NumM.digs n) = wrap64 (-(n : Int)) := by
  apply NumM.digs_ind
  · intro n h
    rw [NumM.digs_small n h, ← List.nil_append [_], rmn_snoc, rsn, NumM.u8_toNat_small n h]
    show wrap64 (wrap64 (0 * 10) + _) = _
    rw [NumM.wrap64_add]
    exact NumM.wrap64_congr (by omega)
  · intro n h hb ih
    rw [NumM.digs_big n h hb, rmn_snoc, ih, rsn, NumM.u8_toNat_small _ (by omega), wrap64_10']
    exact NumM.wrap64_congr (by omega)
/-- What the document's Get comes to, where its loop went through. -/
theorem rget_end (l : List UInt8) (m : Int) (hm : NumM.inR m) (h : ∀ n, NumM.inR n → NumM.text n = l → m = n) :
    NumM.get l = if NumM.text m = l then (m, true) else (0, false) := by
  rcases NumM.get_eq l with ⟨n, hn, he, hg⟩ | ⟨hno, hg⟩
  · rw [h n hn he, if_pos he, hg]
  · rw [if_neg (hno m hm), hg]
theorem rmp_range (l : List UInt8) : NumM.inR (rmp l) := by
  rcases List.eq_nil_or_concat l with rfl | ⟨r, c, rfl⟩
  · exact NumM.inR_zero
  · rw [List.concat_eq_append, rmp_snoc]; exact NumM.wrap64_range _
theorem rmn_range (l : List UInt8) : NumM.inR (rmn l) := by
  rcases List.eq_nil_or_concat l with rfl | ⟨r, c, rfl⟩
  · exact NumM.inR_zero
  · rw [List.concat_eq_append, rmn_snoc]; exact NumM.wrap64_range _
theorem rmp_text (l : List UInt8) (hh : l.head? ≠ some 45) : ∀ n, NumM.inR n → NumM.text n = l → rmp l = n := by
  intro n hn he
  subst he
  have hb := NumM.natAbs_lt n hn
  by_cases h : n < 0
  · exfalso; apply hh; unfold NumM.text; rw [if_pos h]; rfl
  · unfold NumM.text
    rw [if_neg h, rmp_digs _ (by omega), NumM.wrap64_inR _ (by unfold NumM.inR at *; omega)]
    omega
theorem rmn_text (r : List UInt8) : ∀ n, NumM.inR n → NumM.text n = 45 :: r → rmn r = n := by
  intro n hn he
  have hb := NumM.natAbs_lt n hn
  by_cases h : n < 0
  · unfold NumM.text at he
    rw [if_pos h] at he
    injection he with _ he
    rw [← he, rmn_digs _ (by omega), NumM.wrap64_inR _ (by unfold NumM.inR at *; omega)]
    omega
  · exfalso
    obtain ⟨c, q, e, _, h2⟩ := NumM.text_head n hn
    rw [he] at e
    injection e with e _
    exact h (h2.1 e.symm)
theorem text_tail (n : Int) (hn : NumM.inR n) (c : UInt8) (r : List UInt8) (e : NumM.text n = c :: r) : (∀ d ∈ r, 48 ≤ d.toNat ∧ d.toNat ≤ 57) ∧ (c ≠ 45 → 48 ≤ c.toNat ∧ c.toNat ≤ 57) := by
  have hb := NumM.natAbs_lt n hn
  have hd := NumM.digs_digit n.natAbs (by omega)
  unfold NumM.text at e
  split at e
  · injection e with e1 e2
    rw [e2] at hd
    exact ⟨hd, fun k => absurd e1.symm k⟩
  · rw [e] at hd
    exact ⟨fun d hx => hd d (List.mem_cons_of_mem _ hx), fun _ => hd c (by simp)⟩
/-- Where a byte is no digit there is no number. -/
theorem get_odd (l : List UInt8) (k : Nat) (hk : k < l.length) (h : k ≠ 0 ∨ l.head? ≠ some 45) (hd : ¬ (48 ≤ (l[k]).toNat ∧ (l[k]).toNat ≤ 57)) : NumM.get l = (0, false) := by
  rcases NumM.get_eq l with ⟨n, hn, he, _⟩ | ⟨_, hg⟩
  · exfalso
    apply hd
    cases l with
    | nil => simp at hk
    | cons c r =>
      have ht := text_tail n hn c r he
      cases k with
      | zero =>
        refine ht.2 fun e => ?_
        rcases h with h | h
        · exact h rfl
        · apply h; rw [e]; rfl
      | succ j => exact ht.1 _ (List.getElem_mem _)
  · exact hg
theorem get_long (l : List UInt8) (h : 20 < l.length) : NumM.get l = (0, false) := by
  rcases NumM.get_eq l with ⟨n, hn, he, _⟩ | ⟨_, hg⟩
  · exfalso
    have := NumM.text_len n hn
    rw [he] at this; omega
  · exact hg
theorem rmp_take (s : ByteArray) (k : Nat) (h : k < s.size) : rmp (s.data.toList.take (k + 1)) = rsp (rmp (s.data.toList.take k)) s[k] := by
  rw [take_snoc s k h, rmp_snoc]
theorem rmn_take (s : ByteArray) (k : Nat) (h : k < s.size) (h1 : 1 ≤ k) : rmn ((s.data.toList.take (k + 1)).tail) = rsn (rmn ((s.data.toList.take k).tail)) s[k] := by
  rw [← List.drop_one, ← List.drop_one, take_snoc s k h, List.drop_append_of_le_length (by rw [List.length_take, ← Lib.size_eq]; omega), rmn_snoc]
theorem rmp_full (s : ByteArray) : rmp (s.data.toList.take s.size) = rmp s.data.toList := by rw [take_full]
theorem rmn_full (s : ByteArray) : rmn ((s.data.toList.take s.size).tail) = rmn (s.data.toList.tail) := by rw [take_full]
theorem rmn_text_drop (s : ByteArray) (hh : s.data.toList.head? = some 45) : ∀ n, NumM.inR n → NumM.text n = s.data.toList → rmn (s.data.toList.tail) = n := by
  intro n hn he
  cases e : s.data.toList with
  | nil => rw [e] at hh; cases hh
  | cons c r =>
    rw [e] at hh he
    simp only [List.head?_cons, Option.some.injEq] at hh
    subst hh
    exact rmn_text r n hn he
set_option maxHeartbeats 1000000 in
set_option maxRecDepth 100000 in
theorem rget_pos1 (s : ByteArray) (w : World) (h20 : s.size ≤ 20) (hh : s.data.toList.head? ≠ some 45) (h0 : (0 : Int) < (s.size : Int)) (hz : 0 < s.size) (hf : ((((s[0]'hz).toNat : Nat) : Int) == 45) = false) :
    Calls Tryd.prog 31 #[.string s] w fun e w' => e = .returned (.tuple #[.int .i64 (NumM.get s.data.toList).1, .bool (NumM.get s.data.toList).2]) ∧ Below w.heap.size w w' := by
  go_enter Tryd.func31, Tryd.ntmps31
  go_wp2
  go_loop [5, 6] (fun n i => ∃ k : Nat, 0 ≤ k ∧ k ≤ s.size ∧ i = .int .i64 k ∧ n = .int .i64 (rmp (s.data.toList.take k))) (fun _ i => s.size - (intOf i).toNat)
  case atStart => exact ⟨0, Nat.zero_le _, Nat.zero_le _, rfl, rfl⟩
  case round =>
    obtain ⟨k, hka, hk, rfl, rfl⟩ := hrel
    by_cases hlt : k < s.size
    · have HT := Lib.hid (rmp_take s k hlt)
      have hb := (s[k]).toNat_lt
      by_cases h1 : ((s[k].toNat : Nat) : Int) < 48
      · have hg := Lib.hid (get_odd s.data.toList k (by rw [← Lib.size_eq]; exact hlt) (.inr hh) (by have e : s.data.toList[k]'(by rw [← Lib.size_eq]; exact hlt) = s[k] := rfl; rw [e]; omega))
        go_wp2
        go_ret2
        exact ⟨by rw [hg.out]; rfl, Below.refl _ _⟩
      · by_cases h2 : (57 : Int) < ((s[k].toNat : Nat) : Int)
        · have hg := Lib.hid (get_odd s.data.toList k (by rw [← Lib.size_eq]; exact hlt) (.inr hh) (by have e : s.data.toList[k]'(by rw [← Lib.size_eq]; exact hlt) = s[k] := rfl; rw [e]; omega))
          go_wp2
          go_ret2
          exact ⟨by rw [hg.out]; rfl, Below.refl _ _⟩
        · go_wp2
          go_round
          case rel => exact ⟨k + 1, by omega, by omega, by go_num, by rw [HT.out]; rfl⟩
          case measure => simp [intOf]; omega
    · obtain rfl : s.size = k := by omega
      have ht := rmp_full s
      have hr := rmp_range s.data.toList
      have he := Lib.hid (rget_end s.data.toList _ hr (rmp_text s.data.toList hh))
      rw [ht]
      generalize rmp s.data.toList = m at *
      by_cases hq : NumM.text m = s.data.toList
      · have hq2 : (NumM.text m == s.toList) = true := by rw [Lib.toList_data, beq_dec]; exact decide_eq_true hq
        have hg := Lib.hid (he.out.trans (if_pos hq))
        clear hq ht he
        go_wp2_with (go_at_call 21; refine (rtext_any _ _ hr).mono ?_; rintro e w' ⟨rfl, hB⟩)
        go_ret2
        exact ⟨by rw [hg.out]; rfl, hB⟩
      · have hq2 : (NumM.text m == s.toList) = false := by rw [Lib.toList_data, beq_dec]; exact decide_eq_false hq
        have hg := Lib.hid (he.out.trans (if_neg hq))
        clear hq ht he
        go_wp2_with (go_at_call 21; refine (rtext_any _ _ hr).mono ?_; rintro e w' ⟨rfl, hB⟩)
        go_ret2
        exact ⟨by rw [hg.out]; rfl, hB⟩
set_option maxHeartbeats 1000000 in
set_option maxRecDepth 100000 in
theorem rget_pos0 (s : ByteArray) (w : World) (h20 : s.size ≤ 20) (hh : s.data.toList.head? ≠ some 45) (h0 : ¬ (0 : Int) < (s.size : Int)) :
    Calls Tryd.prog 31 #[.string s] w fun e w' => e = .returned (.tuple #[.int .i64 (NumM.get s.data.toList).1, .bool (NumM.get s.data.toList).2]) ∧ Below w.heap.size w w' := by
  go_enter Tryd.func31, Tryd.ntmps31
  go_wp2
  go_loop [5, 6] (fun n i => ∃ k : Nat, 0 ≤ k ∧ k ≤ s.size ∧ i = .int .i64 k ∧ n = .int .i64 (rmp (s.data.toList.take k))) (fun _ i => s.size - (intOf i).toNat)
  case atStart => exact ⟨0, Nat.zero_le _, Nat.zero_le _, rfl, rfl⟩
  case round =>
    obtain ⟨k, hka, hk, rfl, rfl⟩ := hrel
    by_cases hlt : k < s.size
    · exact absurd hlt (by omega)
    · obtain rfl : s.size = k := by omega
      have ht := rmp_full s
      have hr := rmp_range s.data.toList
      have he := Lib.hid (rget_end s.data.toList _ hr (rmp_text s.data.toList hh))
      rw [ht]
      generalize rmp s.data.toList = m at *
      by_cases hq : NumM.text m = s.data.toList
      · have hq2 : (NumM.text m == s.toList) = true := by rw [Lib.toList_data, beq_dec]; exact decide_eq_true hq
        have hg := Lib.hid (he.out.trans (if_pos hq))
        clear hq ht he
        go_wp2_with (go_at_call 21; refine (rtext_any _ _ hr).mono ?_; rintro e w' ⟨rfl, hB⟩)
        go_ret2
        exact ⟨by rw [hg.out]; rfl, hB⟩
      · have hq2 : (NumM.text m == s.toList) = false := by rw [Lib.toList_data, beq_dec]; exact decide_eq_false hq
        have hg := Lib.hid (he.out.trans (if_neg hq))
        clear hq ht he
        go_wp2_with (go_at_call 21; refine (rtext_any _ _ hr).mono ?_; rintro e w' ⟨rfl, hB⟩)
        go_ret2
        exact ⟨by rw [hg.out]; rfl, hB⟩
set_option maxHeartbeats 1000000 in
set_option maxRecDepth 100000 in
theorem rget_neg (s : ByteArray) (w : World) (h20 : s.size ≤ 20) (hh : s.data.toList.head? = some 45) (h0 : (0 : Int) < (s.size : Int)) (hz : 0 < s.size) (hf : ((((s[0]'hz).toNat : Nat) : Int) == 45) = true) :
    Calls Tryd.prog 31 #[.string s] w fun e w' => e = .returned (.tuple #[.int .i64 (NumM.get s.data.toList).1, .bool (NumM.get s.data.toList).2]) ∧ Below w.heap.size w w' := by
  have hh' := Lib.hid hh
  clear hh
  have h00 : rmn ((s.data.toList.take 1).tail) = 0 := by
    rw [← List.drop_one, List.drop_eq_nil_of_le (by rw [List.length_take]; omega)]; rfl
  have h00' := Lib.hid h00
  clear h00
  go_enter Tryd.func31, Tryd.ntmps31
  go_wp2
  go_loop [5, 6, 7] (fun n i d => ∃ k : Nat, 1 ≤ k ∧ k ≤ s.size ∧ i = .int .i64 k ∧ n = .int .i64 (rmn ((s.data.toList.take k).tail))) (fun _ i _ => s.size - (intOf i).toNat)
  case atStart => exact ⟨1, Nat.le_refl _, by omega, rfl, by rw [h00'.out]⟩
  case round =>
    have hh := hh'.out
    obtain ⟨k, hka, hk, rfl, rfl⟩ := hrel
    by_cases hlt : k < s.size
    · have HT := Lib.hid (rmn_take s k hlt hka)
      have hb := (s[k]).toNat_lt
      by_cases h1 : ((s[k].toNat : Nat) : Int) < 48
      · have hg := Lib.hid (get_odd s.data.toList k (by rw [← Lib.size_eq]; exact hlt) (.inl (by omega)) (by have e : s.data.toList[k]'(by rw [← Lib.size_eq]; exact hlt) = s[k] := rfl; rw [e]; omega))
        go_wp2
        go_ret2
        exact ⟨by rw [hg.out]; rfl, Below.refl _ _⟩
      · by_cases h2 : (57 : Int) < ((s[k].toNat : Nat) : Int)
        · have hg := Lib.hid (get_odd s.data.toList k (by rw [← Lib.size_eq]; exact hlt) (.inl (by omega)) (by have e : s.data.toList[k]'(by rw [← Lib.size_eq]; exact hlt) = s[k] := rfl; rw [e]; omega))
          go_wp2
          go_ret2
          exact ⟨by rw [hg.out]; rfl, Below.refl _ _⟩
        · go_wp2
          go_round
          case rel => exact ⟨k + 1, by omega, by omega, by go_num, by rw [HT.out]; rfl⟩
          case measure => simp [intOf]; omega
    · obtain rfl : s.size = k := by omega
      have ht := rmn_full s
      have hr := rmn_range (s.data.toList.tail)
      have he := Lib.hid (rget_end s.data.toList _ hr (rmn_text_drop s hh))
      rw [ht]
      generalize rmn (s.data.toList.tail) = m at *
      by_cases hq : NumM.text m = s.data.toList
      · have hq2 : (NumM.text m == s.toList) = true := by rw [Lib.toList_data, beq_dec]; exact decide_eq_true hq
        have hg := Lib.hid (he.out.trans (if_pos hq))
        clear hq ht he
        go_wp2_with (go_at_call 21; refine (rtext_any _ _ hr).mono ?_; rintro e w' ⟨rfl, hB⟩)
        go_ret2
        exact ⟨by rw [hg.out]; rfl, hB⟩
      · have hq2 : (NumM.text m == s.toList) = false := by rw [Lib.toList_data, beq_dec]; exact decide_eq_false hq
        have hg := Lib.hid (he.out.trans (if_neg hq))
        clear hq ht he
        go_wp2_with (go_at_call 21; refine (rtext_any _ _ hr).mono ?_; rintro e w' ⟨rfl, hB⟩)
        go_ret2
        exact ⟨by rw [hg.out]; rfl, hB⟩
theorem get_size (s : ByteArray) (h : ¬ s.size ≤ 20) : NumM.get s.data.toList = (0, false) := get_long _ (by rw [← Lib.size_eq]; omega)
set_option maxHeartbeats 1000000 in
set_option maxRecDepth 100000 in
theorem rget_long (s : ByteArray) (w : World) (hs : s.size ≤ maxLen) (h20 : ¬ s.size ≤ 20) (hz : 0 < s.size) (o : Bool) (hf : ((((s[0]'hz).toNat : Nat) : Int) == 45) = o) :
    Calls Tryd.prog 31 #[.string s] w fun e w' => e = .returned (.tuple #[.int .i64 (NumM.get s.data.toList).1, .bool (NumM.get s.data.toList).2]) ∧ Below w.heap.size w w' := by
  unfold maxLen at hs
  have hg := Lib.hid (get_size s h20)
  have hq : (NumM.text 0 == s.toList) = false := by
    rw [Lib.toList_data, beq_dec]
    refine decide_eq_false fun e => ?_
    have : (NumM.text 0).length = s.size := by rw [e, ← Lib.size_eq]
    rw [text_zero_l] at this
    simp at this; omega
  have h21 : ((s.size : Int) ≤ 20) = False := by simp; omega
  cases o
  · go_enter Tryd.func31, Tryd.ntmps31
    go_wp2
    go_loop [5, 6] (fun n i => n = .int .i64 0 ∧ i = .int .i64 0) (fun _ _ => 0)
    case atStart => exact ⟨rfl, rfl⟩
    case round =>
      obtain ⟨rfl, rfl⟩ := hrel
      go_wp2_with (go_at_call 21; refine (rtext_any _ _ NumM.inR_zero).mono ?_; rintro e w' ⟨rfl, hB⟩)
      go_ret2
      exact ⟨by rw [hg.out]; rfl, hB⟩
  · go_enter Tryd.func31, Tryd.ntmps31
    go_wp2
    go_loop [5, 6] (fun n i => n = .int .i64 0 ∧ i = .int .i64 1) (fun _ _ => 0)
    case atStart => exact ⟨rfl, rfl⟩
    case round =>
      obtain ⟨rfl, rfl⟩ := hrel
      go_wp2_with (go_at_call 21; refine (rtext_any _ _ NumM.inR_zero).mono ?_; rintro e w' ⟨rfl, hB⟩)
      go_ret2
      exact ⟨by rw [hg.out]; rfl, hB⟩
theorem rget_any (s : ByteArray) (w : World) (hs : s.size ≤ maxLen) :
    Calls Tryd.prog 31 #[.string s] w fun e w' => e = .returned (.tuple #[.int .i64 (NumM.get s.data.toList).1, .bool (NumM.get s.data.toList).2]) ∧ Below w.heap.size w w' := by
  by_cases h20 : s.size ≤ 20
  · by_cases hz : 0 < s.size
    · have hfb := first_byte s hz
      by_cases h45 : s[0] = 45
      · rw [h45] at hfb
        exact rget_neg s w h20 hfb (by omega) hz (by rw [h45]; rfl)
      · refine rget_pos1 s w h20 (by rw [hfb]; simpa using h45) (by omega) hz ?_
        refine beq_eq_false_iff_ne.2 fun e => h45 ?_
        apply UInt8.toNat_inj.1
        have : (45 : UInt8).toNat = 45 := rfl
        omega
    · have : s.data.toList = [] := List.eq_nil_of_length_eq_zero (by rw [← Lib.size_eq]; omega)
      exact rget_pos0 s w h20 (by rw [this]; simp) (by omega)
  · exact rget_long s w hs h20 (by omega) _ rfl
end Go.Proofs.YtmpjcfehabnhgaaDoor
