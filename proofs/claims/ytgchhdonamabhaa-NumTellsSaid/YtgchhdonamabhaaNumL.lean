/-
  THE LAWS OF LAYER 1, AS WALKS OVER ANY WORLD: each returns true.
-/
import Derived.Test.YtgchhdonamabhaaNumW
import Derived.OpenShut
namespace Go.Proofs.Ytgchhdonamabhaa
open Go.RowKit

theorem lit1 : NumM.get (⟨#[45, 57, 50, 50, 51, 51, 55, 50, 48, 51, 54, 56, 53, 52, 55, 55, 53, 56, 48, 56]⟩ : ByteArray).data.toList = (-9223372036854775808, true) := by decide +kernel
theorem lit2 : NumM.get (⟨#[57, 50, 50, 51, 51, 55, 50, 48, 51, 54, 56, 53, 52, 55, 55, 53, 56, 48, 56]⟩ : ByteArray).data.toList = (0, false) := by decide +kernel
theorem lit3 : NumM.get (⟨#[45, 48]⟩ : ByteArray).data.toList = (0, false) := by decide +kernel

theorem lit4 : NumM.text 0 = [48] := by decide +kernel
theorem lit5 : NumM.text (-70) = [45, 55, 48] := by decide +kernel
theorem lit6 : NumM.text (-9223372036854775808) = [45, 57, 50, 50, 51, 51, 55, 50, 48, 51, 54, 56, 53, 52, 55, 55, 53, 56, 48, 56] := by decide +kernel
theorem lit7 : NumM.compare (⟨#[45, 55]⟩ : ByteArray).data.toList (⟨#[51]⟩ : ByteArray).data.toList = -1 := by decide +kernel
theorem lit8 : NumM.compare (⟨#[51]⟩ : ByteArray).data.toList (⟨#[51]⟩ : ByteArray).data.toList = 0 := by decide +kernel
theorem lit9 : NumM.compare (⟨#[49, 48]⟩ : ByteArray).data.toList (⟨#[57]⟩ : ByteArray).data.toList = 1 := by decide +kernel
theorem lit10 : NumM.compare (⟨#[120]⟩ : ByteArray).data.toList (⟨#[57]⟩ : ByteArray).data.toList = 2 := by decide +kernel

theorem inR_wf {n : Int} (h : (Lit.int .i64 n).wf = true) : NumM.inR n := bounds_i64 h

theorem chain {w a b : World} (h : Below w.heap.size w a) (k : Below a.heap.size a b) : Below w.heap.size w b := h.trans (k.mono h.size)

set_option maxHeartbeats 400000 in
theorem head_any (w : World) :
    Calls Try.prog 9 #[] w fun e w' => e = .returned (.bool true) ∧ Below w.heap.size w w' := by
  go_enter Try.func9, Try.ntmps9
  go_wp2_with fail
  refine (get_any _ _ (by decide)).mono ?_
  rw [lit1]
  rintro e wv1 ⟨rfl, hB⟩
  go_wp2_with fail
  refine (get_any _ _ (by decide)).mono ?_
  rw [lit2]
  rintro e wv2 ⟨rfl, hB'⟩
  replace hB := chain hB hB'
  clear hB'
  go_wp2_with fail
  refine (get_any _ _ (by decide)).mono ?_
  rw [lit3]
  rintro e wv3 ⟨rfl, hB'⟩
  replace hB := chain hB hB'
  clear hB'
  go_wp2_with fail
  refine (text_any _ _ (by unfold NumM.inR; omega)).mono ?_
  rw [lit4]
  rintro e wv4 ⟨rfl, hB'⟩
  replace hB := chain hB hB'
  clear hB'
  go_wp2_with fail
  refine (text_any _ _ (by unfold NumM.inR; omega)).mono ?_
  rw [lit5]
  rintro e wv5 ⟨rfl, hB'⟩
  replace hB := chain hB hB'
  clear hB'
  go_wp2_with fail
  refine (text_any _ _ (by unfold NumM.inR; omega)).mono ?_
  rw [lit6]
  rintro e wv6 ⟨rfl, hB'⟩
  replace hB := chain hB hB'
  clear hB'
  go_wp2_with fail
  refine (compare_any _ _ _ (by decide) (by decide)).mono ?_
  rw [lit7]
  rintro e wv7 ⟨rfl, hB'⟩
  replace hB := chain hB hB'
  clear hB'
  go_wp2_with fail
  refine (compare_any _ _ _ (by decide) (by decide)).mono ?_
  rw [lit8]
  rintro e wv8 ⟨rfl, hB'⟩
  replace hB := chain hB hB'
  clear hB'
  go_wp2_with fail
  refine (compare_any _ _ _ (by decide) (by decide)).mono ?_
  rw [lit9]
  rintro e wv9 ⟨rfl, hB'⟩
  replace hB := chain hB hB'
  clear hB'
  go_wp2_with fail
  refine (compare_any _ _ _ (by decide) (by decide)).mono ?_
  rw [lit10]
  rintro e wv10 ⟨rfl, hB'⟩
  replace hB := chain hB hB'
  clear hB'
  go_wp2_with fail
  go_ret
  exact ⟨rfl, hB⟩

/-- A text as a string. -/
def tx (n : Int) : ByteArray := ⟨(NumM.text n).toArray⟩
theorem tx_size (n : Int) : (tx n).size = (NumM.text n).length := by simp [tx, ByteArray.size]
theorem tx_data (n : Int) : (tx n).data.toList = NumM.text n := rfl
theorem tx_max (n : Int) (h : NumM.inR n) : (tx n).size ≤ maxLen := by
  rw [tx_size]
  have := NumM.text_len n h
  unfold maxLen; omega
theorem tx_toList (n : Int) : (tx n).toList = NumM.text n := Lib.toList_data _
theorem text_tx (n : Int) (w : World) (h : NumM.inR n) :
    Calls Try.prog 12 #[.int .i64 n] w fun e w' => e = .returned (.string (tx n)) ∧ Below w.heap.size w w' := text_any n w h
theorem get_tx (n : Int) (w : World) (h : NumM.inR n) :
    Calls Try.prog 10 #[.string (tx n)] w fun e w' => e = .returned (.tuple #[.int .i64 n, .bool true]) ∧ Below w.heap.size w w' := by
  have := get_any (tx n) w (tx_max n h)
  rw [tx_data, NumM.get_text n h] at this
  exact this
theorem compare_tx (a b : Int) (w : World) (ha : NumM.inR a) (hb : NumM.inR b) :
    Calls Try.prog 14 #[.string (tx a), .string (tx b)] w fun e w' => e = .returned (.int .i64 (NumM.cmpI a b)) ∧ Below w.heap.size w w' := by
  have := compare_any (tx a) (tx b) w (tx_max a ha) (tx_max b hb)
  rw [tx_data, tx_data, NumM.compare_text a b ha hb] at this
  exact this

set_option maxHeartbeats 400000 in
theorem back_any (n : Int) (w : World) (hw : (Lit.int .i64 n).wf = true) :
    Calls Try.prog 4 #[.int .i64 n] w fun e w' => e = .returned (.bool true) ∧ Below w.heap.size w w' := by
  have hn := inR_wf hw
  go_enter Try.func4, Try.ntmps4
  go_wp2_with fail
  refine (head_any _).mono ?_
  rintro e wv11 ⟨rfl, hB⟩
  go_wp2_with fail
  refine (text_tx _ _ hn).mono ?_
  rintro e wv12 ⟨rfl, hB'⟩
  replace hB := chain hB hB'
  clear hB'
  go_wp2_with fail
  refine (get_tx _ _ hn).mono ?_
  rintro e wv13 ⟨rfl, hB'⟩
  replace hB := chain hB hB'
  clear hB'
  go_wp2_with fail
  go_ret
  exact ⟨rfl, hB⟩

set_option maxHeartbeats 400000 in
theorem prints_any (s : ByteArray) (w : World) (hs : s.size ≤ maxLen) :
    Calls Try.prog 5 #[.string s] w fun e w' => e = .returned (.bool true) ∧ Below w.heap.size w w' := by
  by_cases hlen : (1000 : Int) < (s.size : Int)
  · go_enter Try.func5, Try.ntmps5
    go_wp2_with fail
    refine (head_any _).mono ?_
    rintro e wv14 ⟨rfl, hB⟩
    go_wp2_with fail
    go_ret
    exact ⟨rfl, hB⟩
  · rcases NumM.get_eq s.data.toList with ⟨n, hn, he, hg⟩ | ⟨_, hg⟩
    · have hx : s = tx n := by
        apply ByteArray.ext
        apply Array.toList_inj.1
        rw [tx_data, he]
      subst hx
      clear he
      have h2 : ((tx n).toList == (tx n).toList) = true := by rw [beq_dec]; simp
      go_enter Try.func5, Try.ntmps5
      go_wp2_with fail
      refine (head_any _).mono ?_
      rintro e wv15 ⟨rfl, hB⟩
      go_wp2_with fail
      refine (get_tx _ _ hn).mono ?_
      rintro e wv16 ⟨rfl, hB'⟩
      replace hB := chain hB hB'
      clear hB'
      go_wp2_with fail
      refine (text_tx _ _ hn).mono ?_
      rintro e wv17 ⟨rfl, hB'⟩
      replace hB := chain hB hB'
      clear hB'
      go_wp2_with fail
      go_ret
      exact ⟨rfl, hB⟩
    · go_enter Try.func5, Try.ntmps5
      go_wp2_with fail
      refine (head_any _).mono ?_
      rintro e wv18 ⟨rfl, hB⟩
      go_wp2_with fail
      refine (get_any _ _ hs).mono ?_
      rw [hg]
      rintro e wv19 ⟨rfl, hB'⟩
      replace hB := chain hB hB'
      clear hB'
      go_wp2_with fail
      go_ret
      exact ⟨rfl, hB⟩

theorem cmpI_lt (a b : Int) (h : a < b) : NumM.cmpI a b = -1 := by unfold NumM.cmpI; rw [if_pos h]
theorem cmpI_gt (a b : Int) (h : b < a) : NumM.cmpI a b = 1 := by unfold NumM.cmpI; rw [if_neg (by omega), if_pos h]
theorem cmpI_eq (a : Int) : NumM.cmpI a a = 0 := by unfold NumM.cmpI; rw [if_neg (by omega), if_neg (by omega)]
theorem compare_left (s : ByteArray) (b : Int) (hb : NumM.inR b) : ((NumM.compare s.data.toList (tx b).data.toList) == 2) = !(NumM.get s.data.toList).2 := by
  unfold NumM.compare
  rw [tx_data, NumM.get_text b hb]
  cases (NumM.get s.data.toList).2
  · rfl
  · simp only [Bool.and_self, if_true, Bool.not_true]
    exact beq_eq_false_iff_ne.2 (NumM.cmpI_ne _ _)

set_option maxHeartbeats 400000 in
theorem ncompare_any (a b : Int) (s : ByteArray) (w : World) (wa : (Lit.int .i64 a).wf = true) (wb : (Lit.int .i64 b).wf = true) (hs : s.size ≤ maxLen) :
    Calls Try.prog 6 #[.int .i64 a, .int .i64 b, .string s] w fun e w' => e = .returned (.bool true) ∧ Below w.heap.size w w' := by
  have ha := inR_wf wa
  have hb := inR_wf wb
  clear wa wb
  by_cases hlen : (1000 : Int) < (s.size : Int)
  · go_enter Try.func6, Try.ntmps6
    go_wp2_with fail
    refine (head_any _).mono ?_
    rintro e wv20 ⟨rfl, hB⟩
    go_wp2_with fail
    go_ret
    exact ⟨rfl, hB⟩
  · have hc := compare_left s b hb
    have hgr := NumM.get_range s.data.toList
    have hca : ∀ W : World, Calls Try.prog 14 #[.string s, .string (tx b)] W fun e w' => e = .returned (.int .i64 (NumM.compare s.data.toList (tx b).data.toList)) ∧ Below W.heap.size W w' := fun W => compare_any s (tx b) W hs (tx_max b hb)
    have hga : ∀ W : World, Calls Try.prog 10 #[.string s] W fun e w' => e = .returned (.tuple #[.int .i64 (NumM.get s.data.toList).1, .bool (NumM.get s.data.toList).2]) ∧ Below W.heap.size W w' := fun W => get_any s W hs
    generalize NumM.compare s.data.toList (tx b).data.toList = k at *
    generalize NumM.get s.data.toList = g at *
    obtain ⟨g1, g2⟩ := g
    replace hc : (k == 2) = !g2 := hc
    have HC := Lib.hid hca
    have HG := Lib.hid hga
    clear hca hga
    rcases Int.lt_trichotomy a b with h | h | h
    · have e1 := cmpI_lt a b h
      have e2 := cmpI_gt b a h
      go_enter Try.func6, Try.ntmps6
      go_wp2_with fail
      refine (head_any _).mono ?_
      rintro e wv21 ⟨rfl, hB⟩
      go_wp2_with fail
      refine (HG.out _).mono ?_
      rintro e wv22 ⟨rfl, hB'⟩
      replace hB := chain hB hB'
      clear hB'
      go_wp2_with fail
      refine (text_tx _ _ hb).mono ?_
      rintro e wv23 ⟨rfl, hB'⟩
      replace hB := chain hB hB'
      clear hB'
      go_wp2_with fail
      refine (HC.out _).mono ?_
      rintro e wv24 ⟨rfl, hB'⟩
      replace hB := chain hB hB'
      clear hB'
      go_wp2_with fail
      refine (text_tx _ _ ha).mono ?_
      rintro e wv25 ⟨rfl, hB'⟩
      replace hB := chain hB hB'
      clear hB'
      go_wp2_with fail
      refine (text_tx _ _ hb).mono ?_
      rintro e wv26 ⟨rfl, hB'⟩
      replace hB := chain hB hB'
      clear hB'
      go_wp2_with fail
      refine (compare_tx _ _ _ ha hb).mono ?_
      rw [e1]
      rintro e wv27 ⟨rfl, hB'⟩
      replace hB := chain hB hB'
      clear hB'
      go_wp2_with fail
      refine (text_tx _ _ hb).mono ?_
      rintro e wv28 ⟨rfl, hB'⟩
      replace hB := chain hB hB'
      clear hB'
      go_wp2_with fail
      refine (text_tx _ _ ha).mono ?_
      rintro e wv29 ⟨rfl, hB'⟩
      replace hB := chain hB hB'
      clear hB'
      go_wp2_with fail
      refine (compare_tx _ _ _ hb ha).mono ?_
      rw [e2]
      rintro e wv30 ⟨rfl, hB'⟩
      replace hB := chain hB hB'
      clear hB'
      cases g2
      · go_wp2_with fail
        go_ret
        exact ⟨rfl, hB⟩
      · go_wp2_with fail
        go_ret
        exact ⟨rfl, hB⟩
    · subst h
      have e1 := cmpI_eq a
      go_enter Try.func6, Try.ntmps6
      go_wp2_with fail
      refine (head_any _).mono ?_
      rintro e wv31 ⟨rfl, hB⟩
      go_wp2_with fail
      refine (HG.out _).mono ?_
      rintro e wv32 ⟨rfl, hB'⟩
      replace hB := chain hB hB'
      clear hB'
      go_wp2_with fail
      refine (text_tx _ _ hb).mono ?_
      rintro e wv33 ⟨rfl, hB'⟩
      replace hB := chain hB hB'
      clear hB'
      go_wp2_with fail
      refine (HC.out _).mono ?_
      rintro e wv34 ⟨rfl, hB'⟩
      replace hB := chain hB hB'
      clear hB'
      go_wp2_with fail
      refine (text_tx _ _ ha).mono ?_
      rintro e wv35 ⟨rfl, hB'⟩
      replace hB := chain hB hB'
      clear hB'
      go_wp2_with fail
      refine (text_tx _ _ hb).mono ?_
      rintro e wv36 ⟨rfl, hB'⟩
      replace hB := chain hB hB'
      clear hB'
      go_wp2_with fail
      refine (compare_tx _ _ _ ha hb).mono ?_
      rw [e1]
      rintro e wv37 ⟨rfl, hB'⟩
      replace hB := chain hB hB'
      clear hB'
      go_wp2_with fail
      refine (text_tx _ _ hb).mono ?_
      rintro e wv38 ⟨rfl, hB'⟩
      replace hB := chain hB hB'
      clear hB'
      go_wp2_with fail
      refine (text_tx _ _ ha).mono ?_
      rintro e wv39 ⟨rfl, hB'⟩
      replace hB := chain hB hB'
      clear hB'
      go_wp2_with fail
      refine (compare_tx _ _ _ hb ha).mono ?_
      rw [e1]
      rintro e wv40 ⟨rfl, hB'⟩
      replace hB := chain hB hB'
      clear hB'
      cases g2
      · go_wp2_with fail
        go_ret
        exact ⟨rfl, hB⟩
      · go_wp2_with fail
        go_ret
        exact ⟨rfl, hB⟩
    · have e1 := cmpI_gt a b h
      have e2 := cmpI_lt b a h
      go_enter Try.func6, Try.ntmps6
      go_wp2_with fail
      refine (head_any _).mono ?_
      rintro e wv41 ⟨rfl, hB⟩
      go_wp2_with fail
      refine (HG.out _).mono ?_
      rintro e wv42 ⟨rfl, hB'⟩
      replace hB := chain hB hB'
      clear hB'
      go_wp2_with fail
      refine (text_tx _ _ hb).mono ?_
      rintro e wv43 ⟨rfl, hB'⟩
      replace hB := chain hB hB'
      clear hB'
      go_wp2_with fail
      refine (HC.out _).mono ?_
      rintro e wv44 ⟨rfl, hB'⟩
      replace hB := chain hB hB'
      clear hB'
      go_wp2_with fail
      refine (text_tx _ _ ha).mono ?_
      rintro e wv45 ⟨rfl, hB'⟩
      replace hB := chain hB hB'
      clear hB'
      go_wp2_with fail
      refine (text_tx _ _ hb).mono ?_
      rintro e wv46 ⟨rfl, hB'⟩
      replace hB := chain hB hB'
      clear hB'
      go_wp2_with fail
      refine (compare_tx _ _ _ ha hb).mono ?_
      rw [e1]
      rintro e wv47 ⟨rfl, hB'⟩
      replace hB := chain hB hB'
      clear hB'
      go_wp2_with fail
      refine (text_tx _ _ hb).mono ?_
      rintro e wv48 ⟨rfl, hB'⟩
      replace hB := chain hB hB'
      clear hB'
      go_wp2_with fail
      refine (text_tx _ _ ha).mono ?_
      rintro e wv49 ⟨rfl, hB'⟩
      replace hB := chain hB hB'
      clear hB'
      go_wp2_with fail
      refine (compare_tx _ _ _ hb ha).mono ?_
      rw [e2]
      rintro e wv50 ⟨rfl, hB'⟩
      replace hB := chain hB hB'
      clear hB'
      cases g2
      · go_wp2_with fail
        go_ret
        exact ⟨rfl, hB⟩
      · go_wp2_with fail
        go_ret
        exact ⟨rfl, hB⟩

theorem tx_first (n : Int) (h : NumM.inR n) : ∃ c : UInt8, ∃ _ : 0 < (tx n).size, (tx n)[0]'(by omega) = c ∧ (((c.toNat : Int)) == 48) = decide (n = 0) ∧ (((c.toNat : Int)) == 45) = decide (n < 0) := by
  obtain ⟨c, r, e, h1, h2⟩ := NumM.text_head n h
  have hs : 0 < (tx n).size := by rw [tx_size, e]; simp
  refine ⟨c, hs, ?_, ?_, ?_⟩
  · have : (tx n).data.toList[0]? = some c := by rw [tx_data, e]; rfl
    have h3 : (tx n)[0] = (tx n).data.toList[0]'(by rw [← Lib.size_eq]; exact hs) := rfl
    rw [h3]
    exact Option.some.inj ((List.getElem?_eq_getElem _).symm.trans this)
  · by_cases k : n = 0
    · have := h1.2 k; subst this; simp [k]
    · have : ¬ c = 48 := fun e => k (h1.1 e)
      simp only [k, decide_false]
      refine beq_eq_false_iff_ne.2 fun e => this ?_
      apply UInt8.toNat_inj.1
      have : (48 : UInt8).toNat = 48 := rfl
      omega
  · by_cases k : n < 0
    · have := h2.2 k; subst this; simp [k]
    · have : ¬ c = 45 := fun e => k (h2.1 e)
      simp only [k, decide_false]
      refine beq_eq_false_iff_ne.2 fun e => this ?_
      apply UInt8.toNat_inj.1
      have : (45 : UInt8).toNat = 45 := rfl
      omega

set_option maxHeartbeats 400000 in
theorem apart_any (a b : Int) (w : World) (wa : (Lit.int .i64 a).wf = true) (wb : (Lit.int .i64 b).wf = true) :
    Calls Try.prog 7 #[.int .i64 a, .int .i64 b] w fun e w' => e = .returned (.bool true) ∧ Below w.heap.size w w' := by
  have ha := inR_wf wa
  have hb := inR_wf wb
  clear wa wb
  have hq : ((tx a).toList == (tx b).toList) = (a == b) := by
    rw [tx_toList, tx_toList, beq_dec]
    by_cases h : a = b
    · subst h; simp
    · have : ¬ NumM.text a = NumM.text b := fun e => h (NumM.text_inj a b ha hb e)
      simp [this, h]
  obtain ⟨c, hs, hc, h48, h45⟩ := tx_first a ha
  have hlen : (tx a).size ≤ 20 := by rw [tx_size]; exact NumM.text_len a ha
  have h20 : decide (((tx a).size : Int) ≤ 20) = true := decide_eq_true (by omega)
  have hz : ((((tx a).size : Nat) : Int) == 0) = false := beq_eq_false_iff_ne.2 (by omega)
  have h480 : ((c.toNat : Int) == 48) = (a == 0) := by rw [h48]; by_cases k : a = 0 <;> simp [k]
  go_enter Try.func7, Try.ntmps7
  go_wp2_with fail
  refine (head_any _).mono ?_
  rintro e wv51 ⟨rfl, hB⟩
  go_wp2_with fail
  refine (text_tx _ _ ha).mono ?_
  rintro e wv52 ⟨rfl, hB'⟩
  replace hB := chain hB hB'
  clear hB'
  go_wp2_with fail
  refine (text_tx _ _ hb).mono ?_
  rintro e wv53 ⟨rfl, hB'⟩
  replace hB := chain hB hB'
  clear hB'
  go_wp2_with fail
  go_ret
  exact ⟨rfl, hB⟩

theorem more_no (n : Int) (hn : NumM.inR n) (c : UInt8) (h : c.toNat < 48 ∨ 57 < c.toNat ∨ n = 0) : NumM.get (NumM.text n ++ [c]) = (0, false) := by
  rcases NumM.get_eq (NumM.text n ++ [c]) with ⟨m, hm, he, _⟩ | ⟨_, hg⟩
  · exfalso
    have hl := NumM.text_last m hm _ c he
    rcases h with h | h | h
    · omega
    · omega
    · subst h
      obtain ⟨d, r, e, h1, _⟩ := NumM.text_head m hm
      have e0 : NumM.text 0 = [48] := lit4
      rw [e0] at he
      rw [e] at he
      have hd : d = 48 := by injection he
      have := h1.1 hd
      subst this
      rw [e0] at e
      rw [← e] at he
      cases he
  · exact hg
theorem more_yes (n : Int) (h0 : n ≠ 0) (hn : -900000000000000000 ≤ n ∧ n ≤ 900000000000000000) (d : Nat) (hd : d ≤ 9) :
    NumM.get (NumM.text n ++ [UInt8.ofNat (48 + d)]) = (n * 10 + (if n < 0 then -(d : Int) else d), true) := by
  rw [← NumM.text_more n h0 hn d hd]
  refine NumM.get_text _ ?_
  unfold NumM.inR
  split <;> omega

theorem conv_one (P : Program) (src e dst : TypeId) (hs : P.underlying src = some (.slice e)) (he : P.underlying e = some (.int .u8)) (hd : P.underlying dst = some .string) (b : UInt8) (W : World) (te : TypeId) :
    (convert src dst (.slice (some ⟨W.heap.size, 0, none⟩) 1 1)).run P (W.alloc (.cells #[.int .u8 (b.toNat : Int)] te)) = .ok (.string ⟨#[b]⟩) (W.alloc (.cells #[.int .u8 (b.toNat : Int)] te)) := by
  have := run_convert_bytes_arg (P := P) (W.alloc (.cells #[.int .u8 (b.toNat : Int)] te)) src e hs he W.heap.size 0 1 1 [(b.toNat : Int)] rfl (fun i hi => by
    obtain rfl : i = 0 := by omega
    rw [World.cell?_alloc_at _ _ _ _ rfl]
    rfl) dst hd
  rw [this]
  congr 2
  unfold strOfNums
  simp

theorem cat_one (l : ByteArray) (b : UInt8) : (l ++ (⟨#[b]⟩ : ByteArray)).data.toList = l.data.toList ++ [b] := by
  rw [ByteArray.data_append]
  simp
theorem cat_one_size (l : ByteArray) (b : UInt8) : (l ++ (⟨#[b]⟩ : ByteArray)).size = l.size + 1 := by
  rw [Lib.size_eq, cat_one, Lib.size_eq]; simp

set_option maxHeartbeats 400000 in
theorem more_no_any (n : Int) (b : UInt8) (w : World) (hn : NumM.inR n) (h : b.toNat < 48 ∨ 57 < b.toNat ∨ n = 0) :
    Calls Try.prog 8 #[.int .i64 n, .int .u8 b.toNat] w fun e w' => e = .returned (.bool true) ∧ Below w.heap.size w w' := by
  have hx := tx_size n
  have hy := NumM.text_len n hn
  have hz := cat_one_size (tx n) b
  have hcv := conv_one Try.prog 32 5 9 (by kernel_rfl) (by kernel_rfl) (by kernel_rfl) b
  have hcat := fun W => run_string_add_sum (P := Try.prog) (w := W) (tx n) ⟨#[b]⟩ (by rw [hx]; have : (⟨#[b]⟩ : ByteArray).size = 1 := rfl; omega)
  have hg : ∀ W : World, Calls Try.prog 10 #[.string (tx n ++ ⟨#[b]⟩)] W fun e w' => e = .returned (.tuple #[.int .i64 0, .bool false]) ∧ Below W.heap.size W w' := fun W => by
    have := get_any (tx n ++ ⟨#[b]⟩) W (by rw [hz, hx]; unfold maxLen; omega)
    rw [cat_one, tx_data, more_no n hn b h] at this
    exact this
  have HG := Lib.hid hg
  have hb := b.toNat_lt
  clear hg hz hx hy
  by_cases h1 : (b.toNat : Int) < 48
  · go_enter Try.func8, Try.ntmps8
    go_wp2_with fail
    refine (head_any _).mono ?_
    rintro e wv54 ⟨rfl, hB⟩
    go_wp2_with fail
    refine (text_tx _ _ hn).mono ?_
    rintro e wv55 ⟨rfl, hB'⟩
    replace hB := chain hB hB'
    clear hB'
    go_wp2_with fail
    have hB2 := hB.alloc hB.size (.cells #[.int .u8 (b.toNat : Int)] 5)
    clear hB
    refine (HG.out _).mono ?_
    rintro e w3 ⟨rfl, hB'⟩
    replace hB := chain hB2 hB'
    clear hB' hB2
    go_wp2_with fail
    go_ret
    exact ⟨rfl, hB⟩
  · by_cases h2 : (57 : Int) < (b.toNat : Int)
    · go_enter Try.func8, Try.ntmps8
      go_wp2_with fail
      refine (head_any _).mono ?_
      rintro e wv56 ⟨rfl, hB⟩
      go_wp2_with fail
      refine (text_tx _ _ hn).mono ?_
      rintro e wv57 ⟨rfl, hB'⟩
      replace hB := chain hB hB'
      clear hB'
      go_wp2_with fail
      have hB2 := hB.alloc hB.size (.cells #[.int .u8 (b.toNat : Int)] 5)
      clear hB
      refine (HG.out _).mono ?_
      rintro e w3 ⟨rfl, hB'⟩
      replace hB := chain hB2 hB'
      clear hB' hB2
      go_wp2_with fail
      go_ret
      exact ⟨rfl, hB⟩
    · have h3 : (n == 0) = true := beq_iff_eq.2 (by omega)
      go_enter Try.func8, Try.ntmps8
      go_wp2_with fail
      refine (head_any _).mono ?_
      rintro e wv58 ⟨rfl, hB⟩
      go_wp2_with fail
      refine (text_tx _ _ hn).mono ?_
      rintro e wv59 ⟨rfl, hB'⟩
      replace hB := chain hB hB'
      clear hB'
      go_wp2_with fail
      have hB2 := hB.alloc hB.size (.cells #[.int .u8 (b.toNat : Int)] 5)
      clear hB
      refine (HG.out _).mono ?_
      rintro e w3 ⟨rfl, hB'⟩
      replace hB := chain hB2 hB'
      clear hB' hB2
      go_wp2_with fail
      go_ret
      exact ⟨rfl, hB⟩

set_option maxHeartbeats 400000 in
theorem more_y1 (n : Int) (b : UInt8) (w : World) (g1 : Int) (g2 : Bool) (hn : NumM.inR n) (h1 : 48 ≤ (b.toNat : Int)) (h2 : (b.toNat : Int) ≤ 57) (h3 : (n == 0) = false)
    (HG : Hid (∀ W : World, Calls Try.prog 10 #[.string (tx n ++ ⟨#[b]⟩)] W fun e w' => e = .returned (.tuple #[.int .i64 g1, .bool g2]) ∧ Below W.heap.size W w')) (k1 : (900000000000000000 : Int) < n) :
    Calls Try.prog 8 #[.int .i64 n, .int .u8 b.toNat] w fun e w' => e = .returned (.bool true) ∧ Below w.heap.size w w' := by
  have hx := tx_size n
  have hy := NumM.text_len n hn
  have hcv := conv_one Try.prog 32 5 9 (by kernel_rfl) (by kernel_rfl) (by kernel_rfl) b
  have hcat := fun W => run_string_add_sum (P := Try.prog) (w := W) (tx n) ⟨#[b]⟩ (by rw [hx]; have : (⟨#[b]⟩ : ByteArray).size = 1 := rfl; omega)
  have hb := b.toNat_lt
  clear hx hy
  go_enter Try.func8, Try.ntmps8
  go_wp2_with fail
  refine (head_any _).mono ?_
  rintro e wv60 ⟨rfl, hB⟩
  go_wp2_with fail
  refine (text_tx _ _ hn).mono ?_
  rintro e wv61 ⟨rfl, hB'⟩
  replace hB := chain hB hB'
  clear hB'
  go_wp2_with fail
  have hB2 := hB.alloc hB.size (.cells #[.int .u8 (b.toNat : Int)] 5)
  clear hB
  refine (HG.out _).mono ?_
  rintro e w3 ⟨rfl, hB'⟩
  replace hB := chain hB2 hB'
  clear hB' hB2
  go_wp2_with fail
  go_ret
  exact ⟨rfl, hB⟩

set_option maxHeartbeats 400000 in
theorem more_y2 (n : Int) (b : UInt8) (w : World) (g1 : Int) (g2 : Bool) (hn : NumM.inR n) (h1 : 48 ≤ (b.toNat : Int)) (h2 : (b.toNat : Int) ≤ 57) (h3 : (n == 0) = false)
    (HG : Hid (∀ W : World, Calls Try.prog 10 #[.string (tx n ++ ⟨#[b]⟩)] W fun e w' => e = .returned (.tuple #[.int .i64 g1, .bool g2]) ∧ Below W.heap.size W w')) (k1 : ¬ (900000000000000000 : Int) < n) (k2 : n < (-900000000000000000 : Int)) :
    Calls Try.prog 8 #[.int .i64 n, .int .u8 b.toNat] w fun e w' => e = .returned (.bool true) ∧ Below w.heap.size w w' := by
  have hx := tx_size n
  have hy := NumM.text_len n hn
  have hcv := conv_one Try.prog 32 5 9 (by kernel_rfl) (by kernel_rfl) (by kernel_rfl) b
  have hcat := fun W => run_string_add_sum (P := Try.prog) (w := W) (tx n) ⟨#[b]⟩ (by rw [hx]; have : (⟨#[b]⟩ : ByteArray).size = 1 := rfl; omega)
  have hb := b.toNat_lt
  clear hx hy
  go_enter Try.func8, Try.ntmps8
  go_wp2_with fail
  refine (head_any _).mono ?_
  rintro e wv62 ⟨rfl, hB⟩
  go_wp2_with fail
  refine (text_tx _ _ hn).mono ?_
  rintro e wv63 ⟨rfl, hB'⟩
  replace hB := chain hB hB'
  clear hB'
  go_wp2_with fail
  have hB2 := hB.alloc hB.size (.cells #[.int .u8 (b.toNat : Int)] 5)
  clear hB
  refine (HG.out _).mono ?_
  rintro e w3 ⟨rfl, hB'⟩
  replace hB := chain hB2 hB'
  clear hB' hB2
  go_wp2_with fail
  go_ret
  exact ⟨rfl, hB⟩

set_option maxHeartbeats 400000 in
theorem more_y3 (n : Int) (b : UInt8) (w : World) (g1 : Int) (g2 : Bool) (hn : NumM.inR n) (h1 : 48 ≤ (b.toNat : Int)) (h2 : (b.toNat : Int) ≤ 57) (h3 : (n == 0) = false)
    (HG : Hid (∀ W : World, Calls Try.prog 10 #[.string (tx n ++ ⟨#[b]⟩)] W fun e w' => e = .returned (.tuple #[.int .i64 g1, .bool g2]) ∧ Below W.heap.size W w')) (k1 : ¬ (900000000000000000 : Int) < n) (k2 : ¬ n < (-900000000000000000 : Int)) (k3 : n < 0) (hg : g2 = true) (hq : (g1 == n * 10 + -((b.toNat : Int) - 48)) = true) :
    Calls Try.prog 8 #[.int .i64 n, .int .u8 b.toNat] w fun e w' => e = .returned (.bool true) ∧ Below w.heap.size w w' := by
  have hx := tx_size n
  have hy := NumM.text_len n hn
  have hcv := conv_one Try.prog 32 5 9 (by kernel_rfl) (by kernel_rfl) (by kernel_rfl) b
  have hcat := fun W => run_string_add_sum (P := Try.prog) (w := W) (tx n) ⟨#[b]⟩ (by rw [hx]; have : (⟨#[b]⟩ : ByteArray).size = 1 := rfl; omega)
  have hb := b.toNat_lt
  clear hx hy
  subst hg
  go_enter Try.func8, Try.ntmps8
  go_wp2_with fail
  refine (head_any _).mono ?_
  rintro e wv64 ⟨rfl, hB⟩
  go_wp2_with fail
  refine (text_tx _ _ hn).mono ?_
  rintro e wv65 ⟨rfl, hB'⟩
  replace hB := chain hB hB'
  clear hB'
  go_wp2_with fail
  have hB2 := hB.alloc hB.size (.cells #[.int .u8 (b.toNat : Int)] 5)
  clear hB
  refine (HG.out _).mono ?_
  rintro e w3 ⟨rfl, hB'⟩
  replace hB := chain hB2 hB'
  clear hB' hB2
  go_wp2_with fail
  go_ret
  exact ⟨rfl, hB⟩

set_option maxHeartbeats 400000 in
theorem more_y4 (n : Int) (b : UInt8) (w : World) (g1 : Int) (g2 : Bool) (hn : NumM.inR n) (h1 : 48 ≤ (b.toNat : Int)) (h2 : (b.toNat : Int) ≤ 57) (h3 : (n == 0) = false)
    (HG : Hid (∀ W : World, Calls Try.prog 10 #[.string (tx n ++ ⟨#[b]⟩)] W fun e w' => e = .returned (.tuple #[.int .i64 g1, .bool g2]) ∧ Below W.heap.size W w')) (k1 : ¬ (900000000000000000 : Int) < n) (k2 : ¬ n < (-900000000000000000 : Int)) (k3 : ¬ n < 0) (hg : g2 = true) (hq : (g1 == n * 10 + ((b.toNat : Int) - 48)) = true) :
    Calls Try.prog 8 #[.int .i64 n, .int .u8 b.toNat] w fun e w' => e = .returned (.bool true) ∧ Below w.heap.size w w' := by
  have hx := tx_size n
  have hy := NumM.text_len n hn
  have hcv := conv_one Try.prog 32 5 9 (by kernel_rfl) (by kernel_rfl) (by kernel_rfl) b
  have hcat := fun W => run_string_add_sum (P := Try.prog) (w := W) (tx n) ⟨#[b]⟩ (by rw [hx]; have : (⟨#[b]⟩ : ByteArray).size = 1 := rfl; omega)
  have hb := b.toNat_lt
  clear hx hy
  subst hg
  go_enter Try.func8, Try.ntmps8
  go_wp2_with fail
  refine (head_any _).mono ?_
  rintro e wv66 ⟨rfl, hB⟩
  go_wp2_with fail
  refine (text_tx _ _ hn).mono ?_
  rintro e wv67 ⟨rfl, hB'⟩
  replace hB := chain hB hB'
  clear hB'
  go_wp2_with fail
  have hB2 := hB.alloc hB.size (.cells #[.int .u8 (b.toNat : Int)] 5)
  clear hB
  refine (HG.out _).mono ?_
  rintro e w3 ⟨rfl, hB'⟩
  replace hB := chain hB2 hB'
  clear hB' hB2
  go_wp2_with fail
  go_ret
  exact ⟨rfl, hB⟩

theorem more_num1 (n : Int) (b : UInt8) (h1 : 48 ≤ (b.toNat : Int)) (h2 : (b.toNat : Int) ≤ 57) (h3 : (n == 0) = false) (k1 : ¬ (900000000000000000 : Int) < n) (k2 : ¬ n < (-900000000000000000 : Int)) :
    (NumM.get (tx n ++ ⟨#[b]⟩).data.toList).2 = true ∧ (n < 0 → (NumM.get (tx n ++ ⟨#[b]⟩).data.toList).1 = n * 10 + -((b.toNat : Int) - 48)) ∧ (¬ n < 0 → (NumM.get (tx n ++ ⟨#[b]⟩).data.toList).1 = n * 10 + ((b.toNat : Int) - 48)) := by
  have h0 : n ≠ 0 := beq_eq_false_iff_ne.1 h3
  have hr := more_yes n h0 ⟨by omega, by omega⟩ (b.toNat - 48) (by omega)
  rw [show UInt8.ofNat (48 + (b.toNat - 48)) = b by rw [show 48 + (b.toNat - 48) = b.toNat by omega]; simp] at hr
  rw [cat_one, tx_data, hr]
  refine ⟨rfl, fun k3 => ?_, fun k3 => ?_⟩
  · rw [if_pos k3]; omega
  · rw [if_neg k3]; omega

theorem get_at (s : ByteArray) (l : Nat) (h1 : s.size = l + 1) (h2 : l ≤ 20) : Hid (∀ W : World, Calls Try.prog 10 #[.string s] W fun e w' => e = .returned (.tuple #[.int .i64 (NumM.get s.data.toList).1, .bool (NumM.get s.data.toList).2]) ∧ Below W.heap.size W w') := by
  have h3 : s.size ≤ maxLen := by unfold maxLen; omega
  exact Lib.hid (fun W => get_any s W h3)
theorem more_get (n : Int) (b : UInt8) (hn : NumM.inR n) : Hid (∀ W : World, Calls Try.prog 10 #[.string (tx n ++ ⟨#[b]⟩)] W fun e w' => e = .returned (.tuple #[.int .i64 (NumM.get (tx n ++ ⟨#[b]⟩).data.toList).1, .bool (NumM.get (tx n ++ ⟨#[b]⟩).data.toList).2]) ∧ Below W.heap.size W w') := by
  have hy : (tx n).size ≤ 20 := by rw [tx_size]; exact NumM.text_len n hn
  have hz := cat_one_size (tx n) b
  generalize tx n ++ ⟨#[b]⟩ = s at *
  exact get_at s _ hz hy

theorem more_yes_any (n : Int) (b : UInt8) (w : World) (hn : NumM.inR n) (h1 : 48 ≤ (b.toNat : Int)) (h2 : (b.toNat : Int) ≤ 57) (h3 : (n == 0) = false) :
    Calls Try.prog 8 #[.int .i64 n, .int .u8 b.toNat] w fun e w' => e = .returned (.bool true) ∧ Below w.heap.size w w' := by
  have hg := more_get n b hn
  have hr := more_num1 n b h1 h2 h3
  generalize (NumM.get (tx n ++ ⟨#[b]⟩).data.toList).1 = g1 at *
  generalize (NumM.get (tx n ++ ⟨#[b]⟩).data.toList).2 = g2 at *
  by_cases k1 : (900000000000000000 : Int) < n
  · exact more_y1 n b w g1 g2 hn h1 h2 h3 hg k1
  · by_cases k2 : n < (-900000000000000000 : Int)
    · exact more_y2 n b w g1 g2 hn h1 h2 h3 hg k1 k2
    · by_cases k3 : n < 0
      · exact more_y3 n b w g1 g2 hn h1 h2 h3 hg k1 k2 k3 (hr k1 k2).1 (beq_iff_eq.2 ((hr k1 k2).2.1 k3))
      · exact more_y4 n b w g1 g2 hn h1 h2 h3 hg k1 k2 k3 (hr k1 k2).1 (beq_iff_eq.2 ((hr k1 k2).2.2 k3))

theorem more_any (n c : Int) (w : World) (wn : (Lit.int .i64 n).wf = true) (wc : (Lit.int .u8 c).wf = true) :
    Calls Try.prog 8 #[.int .i64 n, .int .u8 c] w fun e w' => e = .returned (.bool true) ∧ Below w.heap.size w w' := by
  have hn := inR_wf wn
  have hc := bounds_u8 wc
  obtain ⟨b, rfl⟩ : ∃ b : UInt8, c = (b.toNat : Int) := ⟨UInt8.ofNat c.toNat, by rw [UInt8.toNat_ofNat']; omega⟩
  by_cases h : b.toNat < 48 ∨ 57 < b.toNat ∨ n = 0
  · exact more_no_any n b w hn h
  · exact more_yes_any n b w hn (by omega) (by omega) (beq_eq_false_iff_ne.2 (by omega))
end Go.Proofs.Ytgchhdonamabhaa
