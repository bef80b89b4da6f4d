/-
  PLAIN MATHEMATICS OF LAYER 1: decimal texts as lists of bytes, and the number that the bytes of a text make, wrapped round to 64 bits.
-/
import Derived.IntWalk
set_option linter.unusedVariables false
set_option linter.unusedSimpArgs false
namespace Go.Proofs.Ytodpajnpnobfmaa
open Go.RowKit
namespace NumM

/-- The digits of a number, by fuel. -/
def digsF : Nat → Nat → List UInt8
  | 0, _ => []
  | f + 1, n => if n ≤ 9 then [UInt8.ofNat (48 + n)] else digsF f (n / 10) ++ [UInt8.ofNat (48 + n % 10)]

def digs (n : Nat) : List UInt8 := digsF 20 n

/-- A number's text. -/
def text (n : Int) : List UInt8 := if n < 0 then 45 :: digs n.natAbs else digs n.natAbs

def inR (n : Int) : Prop := -9223372036854775808 ≤ n ∧ n ≤ 9223372036854775807

/-- One step of 'made'. -/
def mstep (n : Int) (c : UInt8) : Int := wrap64 (wrap64 (10 * n) + ((c.toNat : Int) - 48) % 256)

def madeD (l : List UInt8) : Int := l.foldl mstep 0

def made : List UInt8 → Int
  | [] => 0
  | c :: r => if c = 45 then wrap64 (-madeD r) else madeD (c :: r)

theorem made_neg (r : List UInt8) : made (45 :: r) = wrap64 (-madeD r) := by simp [made]
theorem made_pos (l : List UInt8) (h : l.head? ≠ some 45) : made l = madeD l := by
  cases l with
  | nil => rfl
  | cons c r =>
    have hc : c ≠ 45 := by intro e; apply h; simp [e]
    simp [made, hc]

theorem digsF_mono : ∀ (f n : Nat), n < 10 ^ f → digsF (f + 1) n = digsF f n ∨ f = 0
  | 0, _, _ => .inr rfl
  | f + 1, n, h => by
    left
    by_cases h9 : n ≤ 9
    · simp [digsF, h9]
    · have hf : n / 10 < 10 ^ f := by
        rw [Nat.div_lt_iff_lt_mul (by omega)]
        rw [Nat.pow_succ] at h; exact h
      have hf0 : f ≠ 0 := by
        intro e; subst e; simp at h; omega
      have ih := (digsF_mono f (n / 10) hf).resolve_right hf0
      rw [digsF, if_neg h9, ih]
      conv => rhs; rw [digsF]
      rw [if_neg h9]

theorem digs_small (n : Nat) (h : n ≤ 9) : digs n = [UInt8.ofNat (48 + n)] := by simp [digs, digsF, h]
theorem digs_big (n : Nat) (h : ¬ n ≤ 9) (hb : n < 10 ^ 20) : digs n = digs (n / 10) ++ [UInt8.ofNat (48 + n % 10)] := by
  have h19 : n / 10 < 10 ^ 19 := by omega
  have := (digsF_mono 19 (n / 10) h19).resolve_right (by omega)
  show digsF 20 n = digsF 20 (n / 10) ++ _
  rw [this]
  conv => lhs; rw [digsF]
  rw [if_neg h]

/-- induction along the digits. -/
theorem digs_ind {P : Nat → Prop} (h0 : ∀ n, n ≤ 9 → P n) (h1 : ∀ n, ¬ n ≤ 9 → n < 10 ^ 20 → P (n / 10) → P n) : ∀ n, n < 10 ^ 20 → P n := by
  intro n
  induction n using Nat.strongRecOn with
  | _ n ih =>
    intro hn
    by_cases h : n ≤ 9
    · exact h0 n h
    · exact h1 n h hn (ih (n / 10) (by omega) (by omega))

theorem u8_toNat_small (k : Nat) (h : k ≤ 9) : (UInt8.ofNat (48 + k)).toNat = 48 + k := by
  rw [UInt8.toNat_ofNat']; omega

theorem wrap64_inR (n : Int) (h : inR n) : wrap64 n = n := IntWalk.wrap64_in n h

theorem wrap64_add (a b : Int) : wrap64 (wrap64 a + b) = wrap64 (a + b) := by unfold wrap64; omega
theorem wrap64_mul10 (a : Int) : wrap64 (10 * wrap64 a) = wrap64 (10 * a) := by unfold wrap64; omega
theorem wrap64_neg (a : Int) : wrap64 (-wrap64 a) = wrap64 (-a) := by unfold wrap64; omega
theorem wrap64_range (a : Int) : inR (wrap64 a) := by unfold wrap64 inR; omega

theorem mstep_digit (n : Int) (k : Nat) (h : k ≤ 9) : mstep n (UInt8.ofNat (48 + k)) = wrap64 (10 * n + k) := by
  unfold mstep
  rw [u8_toNat_small k h, wrap64_add]
  exact congrArg wrap64 (by omega)

theorem madeD_one (c : UInt8) : madeD [c] = mstep 0 c := by unfold madeD; rw [List.foldl_cons, List.foldl_nil]
theorem madeD_snoc (l : List UInt8) (c : UInt8) : madeD (l ++ [c]) = mstep (madeD l) c := by unfold madeD; rw [List.foldl_append, List.foldl_cons, List.foldl_nil]
theorem wrap64_10 (a b : Int) : wrap64 (10 * wrap64 a + b) = wrap64 (10 * a + b) := by
  rw [← wrap64_add, wrap64_mul10, wrap64_add]
theorem wrap64_congr {a b : Int} (h : a = b) : wrap64 a = wrap64 b := by rw [h]

theorem madeD_digs : ∀ n, n < 10 ^ 20 → madeD (digs n) = wrap64 n := by
  apply digs_ind
  · intro n h
    rw [digs_small n h, madeD_one, mstep_digit 0 n h]
    exact wrap64_congr (by omega)
  · intro n h hb ih
    rw [digs_big n h hb, madeD_snoc, ih, mstep_digit _ _ (by omega), wrap64_10]
    exact wrap64_congr (by omega)

/-- every byte of the digits is a digit. -/
theorem digs_digit : ∀ n, n < 10 ^ 20 → ∀ c ∈ digs n, 48 ≤ c.toNat ∧ c.toNat ≤ 57 := by
  apply digs_ind
  · intro n h c hc
    rw [digs_small n h] at hc
    simp only [List.mem_singleton] at hc
    subst hc
    rw [u8_toNat_small n h]; omega
  · intro n h hb ih c hc
    rw [digs_big n h hb] at hc
    simp only [List.mem_append, List.mem_singleton] at hc
    rcases hc with hc | hc
    · exact ih c hc
    · subst hc
      rw [u8_toNat_small _ (by omega)]; omega

theorem digs_ne : ∀ n, n < 10 ^ 20 → digs n ≠ [] := by
  apply digs_ind
  · intro n h; rw [digs_small n h]; simp
  · intro n h hb _; rw [digs_big n h hb]; simp

/-- the first digit: 0 of 0 alone. -/
theorem digs_head : ∀ n, n < 10 ^ 20 → ∃ c r, digs n = c :: r ∧ (c = 48 ↔ n = 0) := by
  apply digs_ind
  · intro n h
    refine ⟨_, [], digs_small n h, ?_⟩
    rw [← UInt8.toNat_inj, u8_toNat_small n h]
    simp
  · intro n h hb ih
    obtain ⟨c, r, e, hc⟩ := ih
    refine ⟨c, r ++ [UInt8.ofNat (48 + n % 10)], by rw [digs_big n h hb, e]; rfl, ?_⟩
    rw [hc]; omega

theorem digsF_len : ∀ (f k n : Nat), n < 10 ^ k → k ≤ f → 1 ≤ k → (digsF f n).length ≤ k
  | 0, k, n, _, h2, h3 => by omega
  | f + 1, k, n, h, h2, h3 => by
    by_cases h9 : n ≤ 9
    · simp [digsF, h9]; exact h3
    · obtain ⟨j, rfl⟩ : ∃ j, k = j + 1 := ⟨k - 1, by omega⟩
      have hj : j ≠ 0 := by intro e; subst e; simp at h; omega
      have hf : n / 10 < 10 ^ j := by
        rw [Nat.div_lt_iff_lt_mul (by omega)]
        rw [Nat.pow_succ] at h; exact h
      have := digsF_len f j (n / 10) hf (by omega) (by omega)
      simp [digsF, h9]; exact this

theorem natAbs_lt (n : Int) (h : inR n) : n.natAbs < 10 ^ 19 := by unfold inR at h; omega

theorem digs_len (n : Nat) (h : n < 10 ^ 19) : (digs n).length ≤ 19 := digsF_len 20 19 n h (by omega) (by omega)

theorem text_len (n : Int) (h : inR n) : (text n).length ≤ 20 := by
  have := digs_len n.natAbs (natAbs_lt n h)
  unfold text; split
  · simp; exact this
  · omega

theorem made_text (n : Int) (h : inR n) : made (text n) = n := by
  have hb := natAbs_lt n h
  have hd := madeD_digs n.natAbs (by omega)
  unfold text; split
  · rename_i hn
    rw [made_neg, hd, wrap64_neg, wrap64_inR _ (by unfold inR at *; omega)]
    omega
  · rename_i hn
    obtain ⟨c, r, e, _⟩ := digs_head n.natAbs (by omega)
    have hc := digs_digit n.natAbs (by omega) c (by rw [e]; simp)
    rw [made_pos _ (by rw [e]; intro k; simp at k; subst k; simp at hc), hd, wrap64_inR _ (by unfold inR at *; omega)]
    omega

theorem text_inj (a b : Int) (ha : inR a) (hb : inR b) (h : text a = text b) : a = b := by
  rw [← made_text a ha, ← made_text b hb, h]

/-- The number of a text, and whether it is one's. -/
def get (l : List UInt8) : Int × Bool := if text (made l) = l then (made l, true) else (0, false)

theorem inR_zero : inR 0 := by unfold inR; omega
theorem mstep_range (n : Int) (c : UInt8) : inR (mstep n c) := wrap64_range _
theorem madeD_range (l : List UInt8) : inR (madeD l) := by
  rcases List.eq_nil_or_concat l with rfl | ⟨r, c, rfl⟩
  · exact inR_zero
  · rw [List.concat_eq_append, madeD_snoc]; exact mstep_range _ _
theorem made_range (l : List UInt8) : inR (made l) := by
  cases l with
  | nil => exact inR_zero
  | cons c r =>
    by_cases h : c = 45
    · subst h; rw [made_neg]; exact wrap64_range _
    · rw [made_pos _ (by simpa using h)]; exact madeD_range _

theorem get_text (n : Int) (h : inR n) : get (text n) = (n, true) := by simp [get, made_text n h]
theorem get_eq (l : List UInt8) : (∃ n, inR n ∧ text n = l ∧ get l = (n, true)) ∨ ((∀ n, inR n → text n ≠ l) ∧ get l = (0, false)) := by
  unfold get
  by_cases h : text (made l) = l
  · left; exact ⟨made l, made_range l, h, by rw [if_pos h]⟩
  · right
    refine ⟨fun n hn e => ?_, by rw [if_neg h]⟩
    subst e
    rw [made_text n hn] at h
    exact h rfl
theorem get_range (l : List UInt8) : inR (get l).1 := by
  unfold get; split
  · exact made_range l
  · simp [inR]

/-- Which of two is less. -/
def cmpI (x y : Int) : Int := if x < y then -1 else if y < x then 1 else 0
def compare (a b : List UInt8) : Int := if (get a).2 && (get b).2 then cmpI (get a).1 (get b).1 else 2

theorem compare_text (a b : Int) (ha : inR a) (hb : inR b) : compare (text a) (text b) = cmpI a b := by
  simp [compare, get_text a ha, get_text b hb]
theorem cmpI_ne (x y : Int) : cmpI x y ≠ 2 := by unfold cmpI; split <;> (try split) <;> decide
theorem cmpI_swap (x y : Int) : cmpI y x = -cmpI x y := by unfold cmpI; split <;> split <;> (try split) <;> omega

/-- The first byte of a text. -/
theorem text_head (n : Int) (h : inR n) : ∃ c r, text n = c :: r ∧ (c = 48 ↔ n = 0) ∧ (c = 45 ↔ n < 0) := by
  have hb := natAbs_lt n h
  obtain ⟨c, r, e, hc⟩ := digs_head n.natAbs (by omega)
  have hd := digs_digit n.natAbs (by omega) c (by rw [e]; simp)
  unfold text; split
  · rename_i hn
    exact ⟨45, _, rfl, by simp; omega, by simp; omega⟩
  · rename_i hn
    refine ⟨c, r, e, ?_, ?_⟩
    · rw [hc]; omega
    · constructor
      · intro k; subst k; simp at hd
      · intro k; omega

/-- The last byte of a text is a digit. -/
theorem text_last (n : Int) (h : inR n) (l : List UInt8) (c : UInt8) (e : text n = l ++ [c]) : 48 ≤ c.toNat ∧ c.toNat ≤ 57 := by
  have hb := natAbs_lt n h
  have hne := digs_ne n.natAbs (by omega)
  have hg : (digs n.natAbs).getLast? = some c := by
    have h1 : (text n).getLast? = some c := by rw [e]; simp
    unfold text at h1
    split at h1
    · rwa [List.getLast?_cons_of_ne_nil hne] at h1
    · exact h1
  exact digs_digit n.natAbs (by omega) c (List.mem_of_getLast? hg)

/-- With a digit behind a number that is not 0. -/
theorem text_more (n : Int) (h0 : n ≠ 0) (hn : -900000000000000000 ≤ n ∧ n ≤ 900000000000000000) (d : Nat) (hd : d ≤ 9) :
    text (n * 10 + (if n < 0 then -(d : Int) else d)) = text n ++ [UInt8.ofNat (48 + d)] := by
  have key : ∀ m : Nat, m ≠ 0 → m ≤ 900000000000000000 → digs (m * 10 + d) = digs m ++ [UInt8.ofNat (48 + d)] := by
    intro m hm hm2
    rw [digs_big (m * 10 + d) (by omega) (by omega), show (m * 10 + d) / 10 = m by omega, show (m * 10 + d) % 10 = d by omega]
  by_cases hneg : n < 0
  · rw [if_pos hneg]
    unfold text
    rw [if_pos (by omega), if_pos hneg, show (n * 10 + -(d : Int)).natAbs = n.natAbs * 10 + d by omega, key _ (by omega) (by omega)]
    rfl
  · rw [if_neg hneg]
    unfold text
    rw [if_neg (by omega), if_neg hneg, show (n * 10 + (d : Int)).natAbs = n.natAbs * 10 + d by omega, key _ (by omega) (by omega)]

end NumM
end Go.Proofs.Ytodpajnpnobfmaa
