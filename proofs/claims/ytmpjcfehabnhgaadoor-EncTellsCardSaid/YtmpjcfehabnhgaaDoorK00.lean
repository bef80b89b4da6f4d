/-
  PLAIN MATHEMATICS OF TEXTS: what lines and words are, over lists of bytes. It imports nothing of the program.
  PLAIN MATHEMATICS OF LAYER 1: decimal texts as lists of bytes, and the number that the bytes of a text make, wrapped round to 64 bits.
  SMALL FACTS that many texts of the seat use. Of no function of the program.
  SMALL FACTS on boxes: a struct's memory behind calls that make memory alone. Of no function of the program.
  PLAIN MATHEMATICS OF NAMES: which texts are registers, keys and names. It imports nothing of the program.
  names and registers of package word, over any world.
  PLAIN MATHEMATICS OF LAYER 3: lines and atoms, their words, and what words are.
  SLICES OF STRINGS: what it says that a value is a slice whose cells are given texts; what a call says that hands one back. Of no function of the program.
  WHICH LINES ARE RIGHT: the kinds' own tests, and which kind a line is of, over any world that holds the registers.
  PLAIN MATHEMATICS OF LAYER 3: atoms, their words, and what words are.
  ATOMS as values; ops.Asked, over any world that holds the registers.
  BOXES OF LINES AND ATOMS: a struct's cells in a block, kept behind calls that make memory alone.
-/
import Derived.Lib.Strings
import Derived.Lib.Bytealg
import Derived.IntWalk
import Derived.Test.YtmpjcfehabnhgaaDoorRows
import Derived.WalkKit
import Derived.WalkSpells
import Derived.WalkLawsBesides
import Derived.Lib.Hide
import Derived.Laws.BytesArg
import Derived.Laws.Concat
import Derived.OpenShut
import Derived.Deep.QuietTactic
import Derived.BigQuiet
import Derived.LoopTactic
import Derived.RegionTactic
import Derived.Maps.AppendAt
import Derived.RangeFuncBox
import Derived.StillTailTactics
import Derived.Deep.RegionHeld3
set_option linter.unusedVariables false
set_option linter.unusedSimpArgs false
namespace Go.Proofs.YtmpjcfehabnhgaaDoor.WordM
abbrev L := List UInt8

def consHd (b : UInt8) : List L → List L
  | [] => [[b]]
  | h :: t => (b :: h) :: t
/-- What stands between the bytes c, the last one too. -/
def split (c : UInt8) : L → List L
  | [] => [[]]
  | b :: l => if b = c then [] :: split c l else consHd b (split c l)
/-- The same, but for a last one that is empty. -/
def chunks (c : UInt8) : L → List L
  | [] => []
  | b :: l => if b = c then [] :: chunks c l else consHd b (chunks c l)
def full (l : L) : Bool := !l.isEmpty
def lines (s : L) : List L := chunks 10 s
def words (s : L) : List L := (chunks 32 s).filter full

theorem consHd_ne (b : UInt8) (r : List L) : consHd b r ≠ [] := by cases r <;> simp [consHd]
theorem consHd_app (b : UInt8) (r q : List L) (h : r ≠ []) : consHd b (r ++ q) = consHd b r ++ q := by
  cases r with
  | nil => exact absurd rfl h
  | cons x r => rfl
theorem chunks_ne (c : UInt8) (l : L) (h : l ≠ []) : chunks c l ≠ [] := by
  cases l with
  | nil => exact absurd rfl h
  | cons b l =>
    unfold chunks; split
    · simp
    · exact consHd_ne _ _
theorem split_ne (c : UInt8) (l : L) : split c l ≠ [] := by
  cases l with
  | nil => simp [split]
  | cons b l =>
    unfold split; split
    · simp
    · exact consHd_ne _ _
theorem split_app (c : UInt8) : ∀ (a l : L), c ∉ a → split c (a ++ c :: l) = a :: split c l
  | [], l, _ => by simp [split]
  | b :: a, l, h => by
    rw [List.mem_cons, not_or] at h
    rw [List.cons_append, split, if_neg (fun e => h.1 e.symm), split_app c a l h.2]; rfl
theorem split_none (c : UInt8) : ∀ (a : L), c ∉ a → split c a = [a]
  | [], _ => rfl
  | b :: a, h => by
    rw [List.mem_cons, not_or] at h
    rw [split, if_neg (fun e => h.1 e.symm), split_none c a h.2]; rfl
theorem chunks_app (c : UInt8) : ∀ (a l : L), c ∉ a → chunks c (a ++ c :: l) = a :: chunks c l
  | [], l, _ => by simp [chunks]
  | b :: a, l, h => by
    rw [List.mem_cons, not_or] at h
    rw [List.cons_append, chunks, if_neg (fun e => h.1 e.symm), chunks_app c a l h.2]; rfl
theorem chunks_none (c : UInt8) : ∀ (a : L), c ∉ a → a ≠ [] → chunks c a = [a]
  | [], _, h => absurd rfl h
  | [b], h, _ => by
    rw [List.mem_cons, not_or] at h
    rw [chunks, if_neg (fun e => h.1 e.symm)]; rfl
  | b :: d :: a, h, _ => by
    rw [List.mem_cons, not_or] at h
    rw [chunks, if_neg (fun e => h.1 e.symm), chunks_none c (d :: a) h.2 (by simp)]; rfl
theorem chunks_cat (c : UInt8) : ∀ (a b : L), chunks c (a ++ c :: b) = chunks c (a ++ [c]) ++ chunks c b
  | [], b => by simp [chunks]
  | x :: a, b => by
    rw [List.cons_append, List.cons_append, chunks, chunks]
    by_cases h : x = c
    · rw [if_pos h, if_pos h, chunks_cat c a b]; rfl
    · rw [if_neg h, if_neg h, chunks_cat c a b, consHd_app _ _ _ (chunks_ne c _ (by simp))]
/-- The last one that is empty is all that parts them. -/
theorem split_chunks (c : UInt8) : ∀ l : L, split c l = chunks c l ++ [[]] ∨ (split c l = chunks c l ∧ ∃ r x, chunks c l = r ++ [x] ∧ x ≠ [])
  | [] => .inl rfl
  | b :: l => by
    unfold split chunks
    by_cases h : b = c
    · rw [if_pos h, if_pos h]
      rcases split_chunks c l with e | ⟨e, r, x, e2, hx⟩
      · exact .inl (by rw [e]; rfl)
      · exact .inr ⟨by rw [e], [] :: r, x, by rw [e2]; rfl, hx⟩
    · rw [if_neg h, if_neg h]
      rcases split_chunks c l with e | ⟨e, r, x, e2, hx⟩
      · rw [e]
        cases hq : chunks c l with
        | nil => exact .inr ⟨rfl, [], [b], rfl, by simp⟩
        | cons y t => exact .inl rfl
      · refine .inr ⟨by rw [e], ?_⟩
        rw [e2]
        cases r with
        | nil => exact ⟨[], b :: x, rfl, by simp⟩
        | cons y t => exact ⟨(b :: y) :: t, x, rfl, hx⟩
theorem words_split (s : L) : (split 32 s).filter full = words s := by
  unfold words
  rcases split_chunks 32 s with e | ⟨e, _⟩
  · rw [e, List.filter_append]; simp [full]
  · rw [e]
theorem split_snoc (c : UInt8) : ∀ a : L, split c (a ++ [c]) = split c a ++ [[]]
  | [] => by simp [split]
  | x :: a => by
    rw [List.cons_append, split, split]
    by_cases h : x = c
    · rw [if_pos h, if_pos h, split_snoc c a]; rfl
    · rw [if_neg h, if_neg h, split_snoc c a, consHd_app _ _ _ (split_ne c _)]
theorem words_cat (a b : L) : words (a ++ 32 :: b) = words a ++ words b := by
  have e1 : words (a ++ [32]) = words a := by
    rw [← words_split, ← words_split, split_snoc, List.filter_append]; simp [full]
  unfold words at *
  rw [chunks_cat, List.filter_append, e1]
theorem lines_cat (a b : L) : lines (a ++ 10 :: b) = lines (a ++ [10]) ++ lines b := chunks_cat 10 a b
theorem words_blank (l : L) : words (32 :: l) = words l := by
  simp [words, chunks, full]

/-- Lines with line feeds between. -/
def glue : List L → L
  | [] => []
  | [x] => x
  | x :: y :: r => x ++ 10 :: glue (y :: r)
theorem glue_cons (x : L) (r : List L) (h : r ≠ []) : glue (x :: r) = x ++ 10 :: glue r := by
  cases r with
  | nil => exact absurd rfl h
  | cons y r => rfl
theorem glue_snoc : ∀ (r : List L) (x : L), r ≠ [] → glue (r ++ [x]) = glue r ++ 10 :: x
  | [], _, h => absurd rfl h
  | [y], x, _ => rfl
  | y :: z :: r, x, _ => by
    show glue (y :: ((z :: r) ++ [x])) = _
    rw [glue_cons y _ (by simp), glue_snoc (z :: r) x (by simp), glue_cons y (z :: r) (by simp)]; simp
theorem glue_consHd (b : UInt8) (r : List L) (h : r ≠ []) : glue (consHd b r) = b :: glue r := by
  match r, h with
  | [x], _ => rfl
  | x :: y :: r, _ => rfl
theorem glue_split : ∀ s : L, glue (split 10 s) = s
  | [] => rfl
  | b :: l => by
    unfold split
    by_cases h : b = 10
    · rw [if_pos h, glue_cons _ _ (split_ne _ _), glue_split l, h]; rfl
    · rw [if_neg h, glue_consHd _ _ (split_ne _ _), glue_split l]
theorem glue_lines (s : L) : (glue (lines s) = s ∧ (lines s = [] ∨ ∃ r x, lines s = r ++ [x] ∧ x ≠ [])) ∨ glue (lines s) ++ [10] = s := by
  unfold lines
  have g := glue_split s
  rcases split_chunks 10 s with e | ⟨e, r, x, e2, hx⟩
  · by_cases h : chunks 10 s = []
    · refine .inl ⟨?_, .inl h⟩
      rw [e, h] at g
      rw [h]; exact g
    · refine .inr ?_
      rw [e, glue_snoc _ _ h] at g
      exact g
  · exact .inl ⟨by rw [← e]; exact g, .inr ⟨r, x, e2, hx⟩⟩
theorem mem_consHd {b : UInt8} {r : List L} {x : L} (h : x ∈ consHd b r) : x ∈ r ∨ ∃ y, x = b :: y ∧ (y = [] ∨ y ∈ r) := by
  cases r with
  | nil => simp [consHd] at h; exact .inr ⟨[], h, .inl rfl⟩
  | cons z r =>
    simp only [consHd, List.mem_cons] at h
    rcases h with h | h
    · exact .inr ⟨z, h, .inr (List.mem_cons_self ..)⟩
    · exact .inl (List.mem_cons_of_mem _ h)
theorem chunks_free (c : UInt8) : ∀ (l : L) (x : L), x ∈ chunks c l → c ∉ x
  | [], x, h => by simp [chunks] at h
  | b :: l, x, h => by
    unfold chunks at h
    by_cases e : b = c
    · rw [if_pos e, List.mem_cons] at h
      rcases h with rfl | h
      · simp
      · exact chunks_free c l x h
    · rw [if_neg e] at h
      rcases mem_consHd h with h | ⟨y, rfl, hy⟩
      · exact chunks_free c l x h
      · rw [List.mem_cons, not_or]
        refine ⟨fun k => e k.symm, ?_⟩
        rcases hy with rfl | hy
        · simp
        · exact chunks_free c l y hy
theorem lines_free (s x : L) (h : x ∈ lines s) : (10 : UInt8) ∉ x := chunks_free 10 s x h
theorem words_free (s x : L) (h : x ∈ words s) : (32 : UInt8) ∉ x ∧ x ≠ [] := by
  unfold words at h
  rw [List.mem_filter] at h
  refine ⟨chunks_free 32 s x h.1, ?_⟩
  rintro rfl
  simp [full] at h
/-- A text without blanks, or with one behind something. -/
theorem cut_blank (l : L) : (32 : UInt8) ∉ l ∨ ∃ a r, l = a ++ 32 :: r ∧ (32 : UInt8) ∉ a := by
  induction l with
  | nil => exact .inl (by simp)
  | cons b l ih =>
    by_cases h : b = 32
    · exact .inr ⟨[], l, by rw [h]; rfl, by simp⟩
    · rcases ih with ih | ⟨a, r, rfl, ih⟩
      · exact .inl (by simp [ih, Ne.symm h])
      · exact .inr ⟨b :: a, r, rfl, by simp [ih, Ne.symm h]⟩
theorem words_one (a : L) (h : (32 : UInt8) ∉ a) (hn : a ≠ []) : words a = [a] := by
  unfold words
  rw [chunks_none 32 a h hn]
  cases a with
  | nil => exact absurd rfl hn
  | cons => rfl
theorem words_nil (l : L) (h : words l = []) (hh : l.head? ≠ some 32) : l = [] := by
  cases l with
  | nil => rfl
  | cons b l =>
    exfalso
    have hb : b ≠ 32 := by simpa using hh
    rcases cut_blank (b :: l) with e | ⟨a, r, e, ha⟩
    · rw [words_one _ e (by simp)] at h; cases h
    · rw [e, words_cat, words_one a ha] at h
      · cases h
      · rintro rfl; simp at e; exact hb e.1
theorem words_head (l w : L) (r : List L) (h : words l = w :: r) (hh : l.head? ≠ some 32) :
    ∃ q, l = w ++ q ∧ (32 : UInt8) ∉ w ∧ w ≠ [] ∧ words q = r ∧ (q = [] ∨ q.head? = some 32) := by
  cases l with
  | nil => cases h
  | cons b l =>
    have hb : b ≠ 32 := by simpa using hh
    rcases cut_blank (b :: l) with e | ⟨a, q, e, ha⟩
    · rw [words_one _ e (by simp)] at h
      injection h with h1 h2
      subst h1; subst h2
      exact ⟨[], by simp, e, by simp, rfl, .inl rfl⟩
    · have hn : a ≠ [] := by rintro rfl; simp at e; exact hb e.1
      rw [e, words_cat, words_one a ha hn] at h
      injection h with h1 h2
      subst h1
      exact ⟨32 :: q, e, ha, hn, by rw [words_blank]; exact h2, .inr rfl⟩

/-- Where a byte stands first. -/
theorem idx_spec (c : UInt8) : ∀ l : L, (Lib.indexByte l c = -1 ∧ c ∉ l) ∨ ∃ a r, l = a ++ c :: r ∧ c ∉ a ∧ Lib.indexByte l c = (a.length : Int)
  | [] => .inl ⟨rfl, by simp⟩
  | b :: l => by
    by_cases h : b = c
    · subst h
      exact .inr ⟨[], l, rfl, by simp, by simp [Lib.indexByte]⟩
    · have h2 : (b == c) = false := by simpa using h
      rcases idx_spec c l with ⟨e, hn⟩ | ⟨a, r, rfl, hn, e⟩
      · exact .inl ⟨by simp [Lib.indexByte, h2, e], by simp [hn, Ne.symm h]⟩
      · refine .inr ⟨b :: a, r, rfl, by simp [hn, Ne.symm h], ?_⟩
        rw [Lib.indexByte, h2, e]
        have : (((a.length : Int)) == -1) = false := by rw [beq_eq_false_iff_ne]; omega
        simp [this]
end Go.Proofs.YtmpjcfehabnhgaaDoor.WordM
namespace Go.Proofs.YtmpjcfehabnhgaaDoor
open Go.RowKit
namespace NumM

/-- The digits of a number, by fuel. -/
def digsF : Nat → Nat → List UInt8
  | 0, _ => []
  | f + 1, n => if n ≤ 9 then [UInt8.ofNat (48 + n)] else digsF f (n / 10) ++ [UInt8.ofNat (48 + n % 10)]

def digs (n : Nat) : List UInt8 := digsF 20 n

/-- A number's text. -/
def text (n : Int) : List UInt8 := if n < 0 then 45 :: digs n.natAbs else digs n.natAbs

def inR (n : Int) : Prop := -9223372036854775808 ≤ n ∧ n ≤ 9223372036854775807

/-- One step of 'made'. -/
def mstep (n : Int) (c : UInt8) : Int := wrap64 (wrap64 (10 * n) + ((c.toNat : Int) - 48) % 256)

def madeD (l : List UInt8) : Int := l.foldl mstep 0

def made : List UInt8 → Int
  | [] => 0
  | c :: r => if c = 45 then wrap64 (-madeD r) else madeD (c :: r)

theorem made_neg (r : List UInt8) : made (45 :: r) = wrap64 (-madeD r) := by simp [made]
theorem made_pos (l : List UInt8) (h : l.head? ≠ some 45) : made l = madeD l := by
  cases l with
  | nil => rfl
  | cons c r =>
    have hc : c ≠ 45 := by intro e; apply h; simp [e]
    simp [made, hc]

theorem digsF_mono : ∀ (f n : Nat), n < 10 ^ f → digsF (f + 1) n = digsF f n ∨ f = 0
  | 0, _, _ => .inr rfl
  | f + 1, n, h => by
    left
    by_cases h9 : n ≤ 9
    · simp [digsF, h9]
    · have hf : n / 10 < 10 ^ f := by
        rw [Nat.div_lt_iff_lt_mul (by omega)]
        rw [Nat.pow_succ] at h; exact h
      have hf0 : f ≠ 0 := by
        intro e; subst e; simp at h; omega
      have ih := (digsF_mono f (n / 10) hf).resolve_right hf0
      rw [digsF, if_neg h9, ih]
      conv => rhs; rw [digsF]
      rw [if_neg h9]

theorem digs_small (n : Nat) (h : n ≤ 9) : digs n = [UInt8.ofNat (48 + n)] := by simp [digs, digsF, h]
theorem digs_big (n : Nat) (h : ¬ n ≤ 9) (hb : n < 10 ^ 20) : digs n = digs (n / 10) ++ [UInt8.ofNat (48 + n % 10)] := by
  have h19 : n / 10 < 10 ^ 19 := by omega
  have := (digsF_mono 19 (n / 10) h19).resolve_right (by omega)
  show digsF 20 n = digsF 20 (n / 10) ++ _
  rw [this]
  conv => lhs; rw [digsF]
  rw [if_neg h]

/-- induction along the digits. -/
theorem digs_ind {P : Nat → Prop} (h0 : ∀ n, n ≤ 9 → P n) (h1 : ∀ n, ¬ n ≤ 9 → n < 10 ^ 20 → P (n / 10) → P n) : ∀ n, n < 10 ^ 20 → P n := by
  intro n
  induction n using Nat.strongRecOn with
  | _ n ih =>
    intro hn
    by_cases h : n ≤ 9
    · exact h0 n h
    · exact h1 n h hn (ih (n / 10) (by omega) (by omega))

theorem u8_toNat_small (k : Nat) (h : k ≤ 9) : (UInt8.ofNat (48 + k)).toNat = 48 + k := by
  rw [UInt8.toNat_ofNat']; omega

theorem wrap64_inR (n : Int) (h : inR n) : wrap64 n = n := IntWalk.wrap64_in n h

theorem wrap64_add (a b : Int) : wrap64 (wrap64 a + b) = wrap64 (a + b) := by unfold wrap64; omega
theorem wrap64_mul10 (a : Int) : wrap64 (10 * wrap64 a) = wrap64 (10 * a) := by unfold wrap64; omega
theorem wrap64_neg (a : Int) : wrap64 (-wrap64 a) = wrap64 (-a) := by unfold wrap64; omega
theorem wrap64_range (a : Int) : inR (wrap64 a) := by unfold wrap64 inR; omega

theorem mstep_digit (n : Int) (k : Nat) (h : k ≤ 9) : mstep n (UInt8.ofNat (48 + k)) = wrap64 (10 * n + k) := by
  unfold mstep
  rw [u8_toNat_small k h, wrap64_add]
  exact congrArg wrap64 (by omega)

theorem madeD_one (c : UInt8) : madeD [c] = mstep 0 c := by unfold madeD; rw [List.foldl_cons, List.foldl_nil]
theorem madeD_snoc (l : List UInt8) (c : UInt8) : madeD (l ++ [c]) = mstep (madeD l) c := by unfold madeD; rw [List.foldl_append, List.foldl_cons, List.foldl_nil]
theorem wrap64_10 (a b : Int) : wrap64 (10 * wrap64 a + b) = wrap64 (10 * a + b) := by
  rw [← wrap64_add, wrap64_mul10, wrap64_add]
theorem wrap64_congr {a b : Int} (h : a = b) : wrap64 a = wrap64 b := by rw [h]

theorem madeD_digs : ∀ n, n < 10 ^ 20 → madeD (digs n) = wrap64 n := by
  apply digs_ind
  · intro n h
    rw [digs_small n h, madeD_one, mstep_digit 0 n h]
    exact wrap64_congr (by omega)
  · intro n h hb ih
    rw [digs_big n h hb, madeD_snoc, ih, mstep_digit _ _ (by omega), wrap64_10]
    exact wrap64_congr (by omega)

/-- every byte of the digits is a digit. -/
theorem digs_digit : ∀ n, n < 10 ^ 20 → ∀ c ∈ digs n, 48 ≤ c.toNat ∧ c.toNat ≤ 57 := by
  apply digs_ind
  · intro n h c hc
    rw [digs_small n h] at hc
    simp only [List.mem_singleton] at hc
    subst hc
    rw [u8_toNat_small n h]; omega
  · intro n h hb ih c hc
    rw [digs_big n h hb] at hc
    simp only [List.mem_append, List.mem_singleton] at hc
    rcases hc with hc | hc
    · exact ih c hc
    · subst hc
      rw [u8_toNat_small _ (by omega)]; omega

theorem digs_ne : ∀ n, n < 10 ^ 20 → digs n ≠ [] := by
  apply digs_ind
  · intro n h; rw [digs_small n h]; simp
  · intro n h hb _; rw [digs_big n h hb]; simp

/-- the first digit: 0 of 0 alone. -/
theorem digs_head : ∀ n, n < 10 ^ 20 → ∃ c r, digs n = c :: r ∧ (c = 48 ↔ n = 0) := by
  apply digs_ind
  · intro n h
    refine ⟨_, [], digs_small n h, ?_⟩
    rw [← UInt8.toNat_inj, u8_toNat_small n h]
    simp
  · intro n h hb ih
    obtain ⟨c, r, e, hc⟩ := ih
    refine ⟨c, r ++ [UInt8.ofNat (48 + n % 10)], by rw [digs_big n h hb, e]; rfl, ?_⟩
    rw [hc]; omega

theorem digsF_len : ∀ (f k n : Nat), n < 10 ^ k → k ≤ f → 1 ≤ k → (digsF f n).length ≤ k
  | 0, k, n, _, h2, h3 => by omega
  | f + 1, k, n, h, h2, h3 => by
    by_cases h9 : n ≤ 9
    · simp [digsF, h9]; exact h3
    · obtain ⟨j, rfl⟩ : ∃ j, k = j + 1 := ⟨k - 1, by omega⟩
      have hj : j ≠ 0 := by intro e; subst e; simp at h; omega
      have hf : n / 10 < 10 ^ j := by
        rw [Nat.div_lt_iff_lt_mul (by omega)]
        rw [Nat.pow_succ] at h; exact h
      have := digsF_len f j (n / 10) hf (by omega) (by omega)
      simp [digsF, h9]; exact this

theorem natAbs_lt (n : Int) (h : inR n) : n.natAbs < 10 ^ 19 := by unfold inR at h; omega

theorem digs_len (n : Nat) (h : n < 10 ^ 19) : (digs n).length ≤ 19 := digsF_len 20 19 n h (by omega) (by omega)

theorem text_len (n : Int) (h : inR n) : (text n).length ≤ 20 := by
  have := digs_len n.natAbs (natAbs_lt n h)
  unfold text; split
  · simp; exact this
  · omega

theorem made_text (n : Int) (h : inR n) : made (text n) = n := by
  have hb := natAbs_lt n h
  have hd := madeD_digs n.natAbs (by omega)
  unfold text; split
  · rename_i hn
    rw [made_neg, hd, wrap64_neg, wrap64_inR _ (by unfold inR at *; omega)]
    omega
  · rename_i hn
    obtain ⟨c, r, e, _⟩ := digs_head n.natAbs (by omega)
    have hc := digs_digit n.natAbs (by omega) c (by rw [e]; simp)
    rw [made_pos _ (by rw [e]; intro k; simp at k; subst k; simp at hc), hd, wrap64_inR _ (by unfold inR at *; omega)]
    omega

theorem text_inj (a b : Int) (ha : inR a) (hb : inR b) (h : text a = text b) : a = b := by
  rw [← made_text a ha, ← made_text b hb, h]

/-- The number of a text, and whether it is one's. -/
def get (l : List UInt8) : Int × Bool := if text (made l) = l then (made l, true) else (0, false)

theorem inR_zero : inR 0 := by unfold inR; omega
theorem mstep_range (n : Int) (c : UInt8) : inR (mstep n c) := wrap64_range _
theorem madeD_range (l : List UInt8) : inR (madeD l) := by
  rcases List.eq_nil_or_concat l with rfl | ⟨r, c, rfl⟩
  · exact inR_zero
  · rw [List.concat_eq_append, madeD_snoc]; exact mstep_range _ _
theorem made_range (l : List UInt8) : inR (made l) := by
  cases l with
  | nil => exact inR_zero
  | cons c r =>
    by_cases h : c = 45
    · subst h; rw [made_neg]; exact wrap64_range _
    · rw [made_pos _ (by simpa using h)]; exact madeD_range _

theorem get_text (n : Int) (h : inR n) : get (text n) = (n, true) := by simp [get, made_text n h]
theorem get_eq (l : List UInt8) : (∃ n, inR n ∧ text n = l ∧ get l = (n, true)) ∨ ((∀ n, inR n → text n ≠ l) ∧ get l = (0, false)) := by
  unfold get
  by_cases h : text (made l) = l
  · left; exact ⟨made l, made_range l, h, by rw [if_pos h]⟩
  · right
    refine ⟨fun n hn e => ?_, by rw [if_neg h]⟩
    subst e
    rw [made_text n hn] at h
    exact h rfl
theorem get_range (l : List UInt8) : inR (get l).1 := by
  unfold get; split
  · exact made_range l
  · simp [inR]

/-- Which of two is less. -/
def cmpI (x y : Int) : Int := if x < y then -1 else if y < x then 1 else 0
def compare (a b : List UInt8) : Int := if (get a).2 && (get b).2 then cmpI (get a).1 (get b).1 else 2

theorem compare_text (a b : Int) (ha : inR a) (hb : inR b) : compare (text a) (text b) = cmpI a b := by
  simp [compare, get_text a ha, get_text b hb]
theorem cmpI_ne (x y : Int) : cmpI x y ≠ 2 := by unfold cmpI; split <;> (try split) <;> decide
theorem cmpI_swap (x y : Int) : cmpI y x = -cmpI x y := by unfold cmpI; split <;> split <;> (try split) <;> omega

/-- The first byte of a text. -/
theorem text_head (n : Int) (h : inR n) : ∃ c r, text n = c :: r ∧ (c = 48 ↔ n = 0) ∧ (c = 45 ↔ n < 0) := by
  have hb := natAbs_lt n h
  obtain ⟨c, r, e, hc⟩ := digs_head n.natAbs (by omega)
  have hd := digs_digit n.natAbs (by omega) c (by rw [e]; simp)
  unfold text; split
  · rename_i hn
    exact ⟨45, _, rfl, by simp; omega, by simp; omega⟩
  · rename_i hn
    refine ⟨c, r, e, ?_, ?_⟩
    · rw [hc]; omega
    · constructor
      · intro k; subst k; simp at hd
      · intro k; omega

/-- The last byte of a text is a digit. -/
theorem text_last (n : Int) (h : inR n) (l : List UInt8) (c : UInt8) (e : text n = l ++ [c]) : 48 ≤ c.toNat ∧ c.toNat ≤ 57 := by
  have hb := natAbs_lt n h
  have hne := digs_ne n.natAbs (by omega)
  have hg : (digs n.natAbs).getLast? = some c := by
    have h1 : (text n).getLast? = some c := by rw [e]; simp
    unfold text at h1
    split at h1
    · rwa [List.getLast?_cons_of_ne_nil hne] at h1
    · exact h1
  exact digs_digit n.natAbs (by omega) c (List.mem_of_getLast? hg)

/-- With a digit behind a number that is not 0. -/
theorem text_more (n : Int) (h0 : n ≠ 0) (hn : -900000000000000000 ≤ n ∧ n ≤ 900000000000000000) (d : Nat) (hd : d ≤ 9) :
    text (n * 10 + (if n < 0 then -(d : Int) else d)) = text n ++ [UInt8.ofNat (48 + d)] := by
  have key : ∀ m : Nat, m ≠ 0 → m ≤ 900000000000000000 → digs (m * 10 + d) = digs m ++ [UInt8.ofNat (48 + d)] := by
    intro m hm hm2
    rw [digs_big (m * 10 + d) (by omega) (by omega), show (m * 10 + d) / 10 = m by omega, show (m * 10 + d) % 10 = d by omega]
  by_cases hneg : n < 0
  · rw [if_pos hneg]
    unfold text
    rw [if_pos (by omega), if_pos hneg, show (n * 10 + -(d : Int)).natAbs = n.natAbs * 10 + d by omega, key _ (by omega) (by omega)]
    rfl
  · rw [if_neg hneg]
    unfold text
    rw [if_neg (by omega), if_neg hneg, show (n * 10 + (d : Int)).natAbs = n.natAbs * 10 + d by omega, key _ (by omega) (by omega)]

end NumM
end Go.Proofs.YtmpjcfehabnhgaaDoor
namespace Go.Proofs.YtmpjcfehabnhgaaDoor
open Go.RowKit
open WordM (L)
set_option linter.unusedVariables false
theorem beq_dec (a b : List UInt8) : (a == b) = decide (a = b) := by
  by_cases h : a = b <;> simp [h]
theorem take_snoc (s : ByteArray) (k : Nat) (h : k < s.size) : s.data.toList.take (k + 1) = s.data.toList.take k ++ [s[k]] := by
  rw [List.take_succ_eq_append_getElem (by simpa using h)]; rfl
theorem drop_at (s : ByteArray) (k : Nat) (h : k < s.size) : s.data.toList.drop k = s[k] :: s.data.toList.drop (k + 1) := by
  rw [List.drop_eq_getElem_cons (by simpa using h)]; rfl
theorem u8_beq (x c : UInt8) : ((x.toNat : Int) == (c.toNat : Int)) = decide (x = c) := by
  by_cases h : x = c
  · subst h; simp
  · rw [decide_eq_false h, beq_eq_false_iff_ne]
    intro e
    exact h (UInt8.toNat_inj.1 (by omega))
theorem ret_int {k : IntKind} {a b : Int} (h : a = b) : Ending.returned (.int k a) = .returned (.int k b) := by rw [h]
theorem nil_cat (l : List UInt8) : (⟨#[]⟩ : ByteArray) ++ ⟨l.toArray⟩ = ⟨l.toArray⟩ := by
  apply ByteArray.ext
  rw [ByteArray.data_append]
  simp
theorem conv_one (P : Program) (src e dst : TypeId) (hs : P.underlying src = some (.slice e)) (he : P.underlying e = some (.int .u8)) (hd : P.underlying dst = some .string) (b : UInt8) (W : World) (te : TypeId) :
    (convert src dst (.slice (some ⟨W.heap.size, 0, none⟩) 1 1)).run P (W.alloc (.cells #[.int .u8 (b.toNat : Int)] te)) = .ok (.string ⟨#[b]⟩) (W.alloc (.cells #[.int .u8 (b.toNat : Int)] te)) := by
  have := run_convert_bytes_arg (P := P) (W.alloc (.cells #[.int .u8 (b.toNat : Int)] te)) src e hs he W.heap.size 0 1 1 [(b.toNat : Int)] rfl (fun i hi => by
    obtain rfl : i = 0 := by omega
    rw [World.cell?_alloc_at _ _ _ _ rfl]
    rfl) dst hd
  rw [this]
  congr 2
  unfold strOfNums
  simp
theorem conv_one' (P : Program) (src e dst : TypeId) (hs : P.underlying src = some (.slice e)) (he : P.underlying e = some (.int .u8)) (hd : P.underlying dst = some .string) (b : UInt8) (X : Int) (hX : X = (b.toNat : Int)) (te : TypeId) (W : World) :
    (convert src dst (.slice (some ⟨W.heap.size, 0, none⟩) 1 1)).run P (W.alloc (.cells #[.int .u8 X] te)) = .ok (.string ⟨#[b]⟩) (W.alloc (.cells #[.int .u8 X] te)) := by
  subst hX
  exact conv_one P src e dst hs he hd b W te
theorem one_cat (b : UInt8) (l : List UInt8) : (⟨#[b]⟩ : ByteArray) ++ ⟨l.toArray⟩ = ⟨(b :: l).toArray⟩ := rfl
theorem first_byte (s : ByteArray) (h : 0 < s.size) : s.data.toList.head? = some s[0] := by
  have : s.data.toList[0]? = some s[0] := by
    rw [List.getElem?_eq_getElem (by rw [← Lib.size_eq]; exact h)]; rfl
  rw [← this]; exact List.head?_eq_getElem?
theorem take_full (s : ByteArray) : s.data.toList.take s.size = s.data.toList := List.take_of_length_le (by rw [← Lib.size_eq]; exact Nat.le_refl _)
theorem cat_one (l : ByteArray) (b : UInt8) : (l ++ (⟨#[b]⟩ : ByteArray)).data.toList = l.data.toList ++ [b] := by
  rw [ByteArray.data_append]
  simp
theorem cat_one_size (l : ByteArray) (b : UInt8) : (l ++ (⟨#[b]⟩ : ByteArray)).size = l.size + 1 := by
  rw [Lib.size_eq, cat_one, Lib.size_eq]; simp
theorem inR_wf {n : Int} (h : (Lit.int .i64 n).wf = true) : NumM.inR n := bounds_i64 h
theorem head_at (s : ByteArray) (h : 0 < s.size) : s.data.toList.headD 0 = s[0] := by
  have : s.data.toList[0]? = some s[0] := by
    rw [List.getElem?_eq_getElem (by rw [← Lib.size_eq]; exact h)]; rfl
  rw [List.headD_eq_head?_getD, List.head?_eq_getElem?, this]; rfl
theorem strq (s : ByteArray) (l : L) (b : Bool) (h : decide (s.data.toList = l) = b) : (s.toList == l) = b ∧ (l == s.toList) = b := by
  rw [Lib.toList_data, beq_dec, beq_dec, h]
  refine ⟨rfl, ?_⟩
  rw [← h]; congr 1; exact propext ⟨Eq.symm, Eq.symm⟩
theorem chain {w a b : World} (h : Below w.heap.size w a) (k : Below a.heap.size a b) : Below w.heap.size w b := h.trans (k.mono h.size)
theorem below_drewN {B : Nat} {a w : World} (h : Below B a w) (n : Nat) : Below B a (w.drewN n) := ⟨h.os, h.tape, h.output, h.size, h.block⟩
end Go.Proofs.YtmpjcfehabnhgaaDoor
namespace Go.Proofs.YtmpjcfehabnhgaaDoor
open Go.RowKit
set_option linter.unusedVariables false
/-- What a box had when it was made it has behind calls that make memory alone. -/
theorem kept_box {w w1 : World} {cs : Array Value} {T : TypeId} (hB : Below (w.alloc (.cells cs T)).heap.size (w.alloc (.cells cs T)) w1) (i : Nat) {v : Value} (h : cs[i]? = some v) :
    w1.cell? ⟨w.heap.size, i, none⟩ = some v ∧ w1.frozen? ⟨w.heap.size, i, none⟩ = false := by
  refine ⟨(hB.cell (p := ⟨w.heap.size, i, none⟩) (by simp)).trans ?_, (hB.frozen (p := ⟨w.heap.size, i, none⟩) (by simp)).trans ?_⟩
  · rw [World.cell?_alloc_at _ _ _ _ rfl]; exact h
  · rw [World.frozen?_alloc_at _ _ _ _ rfl]
theorem kept_boxd {w w1 : World} {cs : Array Value} {T : TypeId} (hB : Below (w.alloc (.cells cs T)).drew.heap.size (w.alloc (.cells cs T)).drew w1) (i : Nat) {v : Value} (h : cs[i]? = some v) :
    w1.cell? ⟨w.heap.size, i, none⟩ = some v ∧ w1.frozen? ⟨w.heap.size, i, none⟩ = false := by
  refine ⟨(hB.cell (p := ⟨w.heap.size, i, none⟩) (by simp)).trans ?_, (hB.frozen (p := ⟨w.heap.size, i, none⟩) (by simp)).trans ?_⟩
  · show (w.alloc (.cells cs T)).cell? _ = _
    rw [World.cell?_alloc_at _ _ _ _ rfl]; exact h
  · show (w.alloc (.cells cs T)).frozen? _ = _
    rw [World.frozen?_alloc_at _ _ _ _ rfl]
theorem box_lt {w w1 : World} {o : Obj} (hB : Below (w.alloc o).heap.size (w.alloc o) w1) : w.heap.size < w1.heap.size := by
  have := hB.size; simp at this; exact this
theorem box_below {w w1 : World} {o : Obj} (hB : Below (w.alloc o).heap.size (w.alloc o) w1) : Below w.heap.size w w1 :=
  ((Below.refl _ _).alloc (Nat.le_refl _) _).trans (hB.mono (by simp))
theorem lt_of_cell {W : World} {g i : Nat} {v : Value} (h : W.cell? ⟨g, i, none⟩ = some v) : g < W.heap.size := by
  rcases Nat.lt_or_ge g W.heap.size with k | k
  · exact k
  · simp [World.cell?, Array.getElem?_eq_none k] at h
/-- Two cells that are held, behind a call that makes memory. -/
theorem held_below2 {W w' : World} {g i j : Nat} {x y : Value} (hB : Below W.heap.size W w') (h : W.cell? ⟨g, i, none⟩ = some x ∧ W.cell? ⟨g, j, none⟩ = some y) :
    w'.cell? ⟨g, i, none⟩ = some x ∧ w'.cell? ⟨g, j, none⟩ = some y :=
  ⟨(hB.cell (p := ⟨g, i, none⟩) (lt_of_cell h.1)).trans h.1, (hB.cell (p := ⟨g, j, none⟩) (lt_of_cell h.1)).trans h.2⟩

theorem held_set2 {W : World} {b g i j n : Nat} {v x y : Value} (hne : g ≠ b) (h : W.cell? ⟨g, i, none⟩ = some x ∧ W.cell? ⟨g, j, none⟩ = some y) :
    (W.setCell ⟨b, n, none⟩ v).cell? ⟨g, i, none⟩ = some x ∧ (W.setCell ⟨b, n, none⟩ v).cell? ⟨g, j, none⟩ = some y :=
  ⟨(World.cell?_setCell_other _ _ _ _ (fun e => hne (by injection e with e _; exact e.symm))).trans h.1, (World.cell?_setCell_other _ _ _ _ (fun e => hne (by injection e with e _; exact e.symm))).trans h.2⟩
theorem held_below3 {W w' : World} {g i j k : Nat} {x y z : Value} (hB : Below W.heap.size W w') (h : W.cell? ⟨g, i, none⟩ = some x ∧ W.cell? ⟨g, j, none⟩ = some y ∧ W.cell? ⟨g, k, none⟩ = some z) :
    w'.cell? ⟨g, i, none⟩ = some x ∧ w'.cell? ⟨g, j, none⟩ = some y ∧ w'.cell? ⟨g, k, none⟩ = some z :=
  ⟨(hB.cell (p := ⟨g, i, none⟩) (lt_of_cell h.1)).trans h.1, held_below2 hB h.2⟩
theorem held_set3 {W : World} {b g i j k n : Nat} {v x y z : Value} (hne : g ≠ b) (h : W.cell? ⟨g, i, none⟩ = some x ∧ W.cell? ⟨g, j, none⟩ = some y ∧ W.cell? ⟨g, k, none⟩ = some z) :
    (W.setCell ⟨b, n, none⟩ v).cell? ⟨g, i, none⟩ = some x ∧ (W.setCell ⟨b, n, none⟩ v).cell? ⟨g, j, none⟩ = some y ∧ (W.setCell ⟨b, n, none⟩ v).cell? ⟨g, k, none⟩ = some z :=
  ⟨(World.cell?_setCell_other _ _ _ _ (fun e => hne (by injection e with e _; exact e.symm))).trans h.1, held_set2 hne h.2⟩
theorem below_box {w w' : World} {o : Obj} (hB : Below (w.alloc o).drew.heap.size (w.alloc o).drew w') : Below w.heap.size w w' :=
  (below_drewN ((Below.refl w.heap.size w).alloc (Nat.le_refl _) o) 1).trans (hB.mono (by simp))
theorem box_ltd {w w1 : World} {o : Obj} (hB : Below (w.alloc o).drew.heap.size (w.alloc o).drew w1) : w.heap.size < w1.heap.size := by
  have := hB.size; simp at this; exact this
end Go.Proofs.YtmpjcfehabnhgaaDoor
namespace Go.Proofs.YtmpjcfehabnhgaaDoor.WordM

def letterB (b : UInt8) : Bool := decide (97 ≤ b.toNat) && decide (b.toNat ≤ 122)
def digitB (b : UInt8) : Bool := decide (48 ≤ b.toNat) && decide (b.toNat ≤ 57)
def alnum (b : UInt8) : Bool := letterB b || digitB b
def speltB (l : L) : Bool := decide (l ≠ []) && decide (l.length ≤ 8) && letterB (l.headD 0) && l.all alnum
def regL (n : Nat) : L := match n with | 0 => [101, 97, 120] | 1 => [101, 98, 120] | 2 => [101, 99, 120] | 3 => [101, 100, 120] | _ => []
def regName (n : Int) : L := if 0 ≤ n ∧ n < 4 then regL n.toNat else []
def regNo (l : L) : Int := if l = regL 0 then 0 else if l = regL 1 then 1 else if l = regL 2 then 2 else if l = regL 3 then 3 else -1
def keys : List L := [[120, 56, 54], [105, 110, 105, 116], [116, 104, 114, 101, 97, 100], [109, 111, 118], [120, 99, 104, 103], [109, 102, 101, 110, 99, 101], [99, 109, 112], [106, 109, 112], [106, 101], [106, 110, 101], [101, 120, 105, 115, 116, 115], [102, 111, 114, 97, 108, 108]]
def keyB (l : L) : Bool := decide (l ∈ keys)
def nameB (l : L) : Bool := speltB l && decide (regNo l < 0) && !keyB l

theorem regNo_name (n : Nat) (h : n < 4) : regNo (regL n) = n := by
  match n, h with
  | 0, _ => rfl
  | 1, _ => rfl
  | 2, _ => rfl
  | 3, _ => rfl
theorem regNo_cases (l : L) : (regNo l = -1 ∧ l ≠ regL 0 ∧ l ≠ regL 1 ∧ l ≠ regL 2 ∧ l ≠ regL 3) ∨ ∃ n, n < 4 ∧ l = regL n ∧ regNo l = n := by
  by_cases h0 : l = regL 0
  · exact .inr ⟨0, by omega, h0, by rw [h0]; rfl⟩
  by_cases h1 : l = regL 1
  · exact .inr ⟨1, by omega, h1, by rw [h1]; rfl⟩
  by_cases h2 : l = regL 2
  · exact .inr ⟨2, by omega, h2, by rw [h2]; rfl⟩
  by_cases h3 : l = regL 3
  · exact .inr ⟨3, by omega, h3, by rw [h3]; rfl⟩
  exact .inl ⟨by simp [regNo, h0, h1, h2, h3], h0, h1, h2, h3⟩
theorem speltB_at (l : L) (k : Nat) (hk : k < l.length) (h : alnum l[k] = false) : speltB l = false := by
  unfold speltB
  have : l.all alnum = false := by
    rw [Bool.eq_false_iff]
    intro e
    rw [List.all_eq_true] at e
    rw [e _ (List.getElem_mem hk)] at h
    cases h
  rw [this]; simp
theorem speltB_head (l : L) (h : letterB (l.headD 0) = false) : speltB l = false := by unfold speltB; rw [h]; simp
theorem speltB_nil : speltB [] = false := rfl
theorem speltB_long (l : L) (h : 8 < l.length) : speltB l = false := by
  unfold speltB
  have : decide (l.length ≤ 8) = false := decide_eq_false (by omega)
  rw [this]; simp
theorem speltB_yes (l : L) (h0 : l ≠ []) (h8 : l.length ≤ 8) (hh : letterB (l.headD 0) = true) (ha : ∀ k (hk : k < l.length), alnum l[k] = true) : speltB l = true := by
  unfold speltB
  rw [decide_eq_true h0, decide_eq_true h8, hh]
  simp only [Bool.true_and]
  rw [List.all_eq_true]
  intro x hx
  obtain ⟨k, hk, rfl⟩ := List.mem_iff_getElem.1 hx
  exact ha k hk
theorem speltB_iff (l : L) : speltB l = true ↔ (l ≠ [] ∧ l.length ≤ 8 ∧ letterB (l.headD 0) = true ∧ ∀ k (hk : k < l.length), alnum l[k] = true) := by
  constructor
  · intro h
    unfold speltB at h
    simp only [Bool.and_eq_true, decide_eq_true_eq, List.all_eq_true] at h
    exact ⟨h.1.1.1, h.1.1.2, h.1.2, fun k hk => h.2 _ (List.getElem_mem hk)⟩
  · intro ⟨a, b, c, d⟩
    exact speltB_yes l a b c d
end Go.Proofs.YtmpjcfehabnhgaaDoor.WordM
namespace Go.Proofs.YtmpjcfehabnhgaaDoor
open Go.RowKit
open WordM (L)
set_option linter.unusedVariables false
theorem regNo_bools (l : L) : WordM.regNo l = if decide (l = WordM.regL 0) then 0 else if decide (l = WordM.regL 1) then 1 else if decide (l = WordM.regL 2) then 2 else if decide (l = WordM.regL 3) then 3 else -1 := by
  unfold WordM.regNo; simp only [decide_eq_true_eq]
/-- At a round of spelt: the bytes ahead of k are letters or digits. -/
def SpRel (s : ByteArray) (i : Value) : Prop := ∃ k : Nat, k ≤ s.size ∧ i = .int .i64 k ∧ ∀ j (h : j < s.size), j < k → WordM.alnum s[j] = true
theorem sprel_next {s : ByteArray} {k : Nat} (hk : k < s.size) (h : WordM.alnum s[k] = true) (hall : ∀ j (h : j < s.size), j < k → WordM.alnum s[j] = true) : SpRel s (.int .i64 ((k : Int) + 1)) :=
  ⟨k + 1, by omega, by go_num, fun j hj h1 => by
    by_cases e : j = k
    · subst e; exact h
    · exact hall j hj (by omega)⟩
theorem spelt_false (s : ByteArray) (k : Nat) (hk : k < s.size) (h : WordM.alnum s[k] = false) : WordM.speltB s.data.toList = false :=
  WordM.speltB_at s.data.toList k (by rw [← Lib.size_eq]; exact hk) h
theorem spelt_true (s : ByteArray) (h0 : 0 < s.size) (h8 : s.size ≤ 8) (hh : WordM.letterB s[0] = true) (ha : ∀ k (hk : k < s.size), k < s.size → WordM.alnum s[k] = true) : WordM.speltB s.data.toList = true := by
  refine WordM.speltB_yes _ (by intro e; have := Lib.size_eq s; rw [e, List.length_nil] at this; omega) (by rw [← Lib.size_eq]; exact h8) ?_ fun k hk => ha k (by rw [Lib.size_eq]; exact hk) (by rw [Lib.size_eq]; exact hk)
  rw [head_at s h0]; exact hh
end Go.Proofs.YtmpjcfehabnhgaaDoor
namespace Go.Proofs.YtmpjcfehabnhgaaDoor.OpsM
open WordM (L)
set_option linter.unusedVariables false

structure Ln where
  op : Int
  reg : L
  loc : L
  label : L
  n : Int

theorem Ln.same {a b : Ln} (h0 : a.op = b.op) (h1 : a.reg = b.reg) (h2 : a.loc = b.loc) (h3 : a.label = b.label) (h4 : a.n = b.n) : a = b := by
  cases a; cases b; simp_all

def kmov : L := [109, 111, 118]
def kxchg : L := [120, 99, 104, 103]
def kmfence : L := [109, 102, 101, 110, 99, 101]
def kcmp : L := [99, 109, 112]
def kjmp : L := [106, 109, 112]
def kje : L := [106, 101]
def kjne : L := [106, 110, 101]
def brk (o : L) : L := 91 :: (o ++ [93])
def col (b : L) : L := b ++ [58]
def regB (r : L) : Bool := decide (0 ≤ WordM.regNo r)
def emp (r : L) : Bool := decide (r = [])
def nil0 (n : Int) : Bool := decide (n = 0)

/-- What the kinds' own tests say. -/
def okNum (r o b : L) : Bool := regB r && (emp o && emp b)
def okLoc (r o b : L) (n : Int) : Bool := regB r && (WordM.nameB o && (emp b && nil0 n))
def okLab (r o b : L) (n : Int) : Bool := WordM.nameB b && (emp r && (emp o && nil0 n))
def okPut (r o b : L) : Bool := WordM.nameB o && (emp r && emp b)
def okFen (r o b : L) (n : Int) : Bool := emp r && (emp o && (emp b && nil0 n))
def right (op : Int) (r o b : L) (n : Int) : Bool :=
  if op = 1 then okNum r o b else if op = 2 then okLoc r o b n else if op = 3 then okLoc r o b n else if op = 4 then okPut r o b
  else if op = 5 then okLoc r o b n else if op = 6 then okFen r o b n else if op = 7 then okNum r o b
  else if op = 8 then okLab r o b n else if op = 9 then okLab r o b n else if op = 10 then okLab r o b n else if op = 11 then okLab r o b n else false
def rightL (l : Ln) : Bool := right l.op l.reg l.loc l.label l.n

def wordsR (op : Int) (r o b : L) (n : Int) : List L :=
  if op = 1 then [kmov, r, NumM.text n] else if op = 2 then [kmov, r, brk o] else if op = 3 then [kmov, brk o, r] else if op = 4 then [kmov, brk o, NumM.text n]
  else if op = 5 then [kxchg, brk o, r] else if op = 6 then [kmfence] else if op = 7 then [kcmp, r, NumM.text n]
  else if op = 8 then [kjmp, b] else if op = 9 then [kje, b] else if op = 10 then [kjne, b] else [col b]
def words (op : Int) (r o b : L) (n : Int) : List L := if right op r o b n then wordsR op r o b n else []
def wordsL (l : Ln) : List L := words l.op l.reg l.loc l.label l.n

/-- A suffix, or a prefix, of one byte, taken off. -/
def offEnd (c : UInt8) (s : L) : L := if s.getLast? = some c then s.dropLast else s
def offHead (c : UInt8) (s : L) : L := if s.head? = some c then s.tail else s
def inside (s : L) : L := offEnd 93 (offHead 91 s)

def zero : Ln := ⟨0, [], [], [], 0⟩
def moved (to fr : L) : Ln :=
  if (NumM.get fr).2 then (if regB to then ⟨1, to, [], [], (NumM.get fr).1⟩ else ⟨4, [], inside to, [], (NumM.get fr).1⟩)
  else if regB to then ⟨2, to, inside fr, [], 0⟩ else ⟨3, fr, inside to, [], 0⟩
def worked (f to fr : L) : Ln :=
  if f = kmov then moved to fr else if f = kxchg then ⟨5, fr, inside to, [], 0⟩ else if f = kcmp then ⟨7, to, [], [], (NumM.get fr).1⟩ else zero
def jumped (f to : L) : Ln := if f = kjmp then ⟨8, [], [], to, 0⟩ else if f = kje then ⟨9, [], [], to, 0⟩ else if f = kjne then ⟨10, [], [], to, 0⟩ else zero
def alone (s : L) : Ln := if s = kmfence then ⟨6, [], [], [], 0⟩ else ⟨11, [], [], offEnd 58 s, 0⟩
def made : List L → Ln
  | [a] => alone a
  | [a, b] => jumped a b
  | [a, b, c] => worked a b c
  | _ => zero
def get (w : List L) : Ln × Bool := if rightL (made w) && decide (wordsL (made w) = w) then (made w, true) else (zero, false)

theorem offEnd_col (b : L) : offEnd 58 (col b) = b := by simp [offEnd, col]
theorem inside_brk (o : L) : inside (brk o) = o := by simp [inside, offHead, brk, offEnd]
theorem col_fence (b : L) : col b ≠ kmfence := by
  intro e
  have := congrArg List.getLast? e
  simp [col, kmfence] at this
theorem right_cases {l : Ln} (h : rightL l = true) :
    (l.op = 1 ∧ okNum l.reg l.loc l.label = true) ∨ (l.op = 2 ∧ okLoc l.reg l.loc l.label l.n = true) ∨ (l.op = 3 ∧ okLoc l.reg l.loc l.label l.n = true) ∨
    (l.op = 4 ∧ okPut l.reg l.loc l.label = true) ∨ (l.op = 5 ∧ okLoc l.reg l.loc l.label l.n = true) ∨ (l.op = 6 ∧ okFen l.reg l.loc l.label l.n = true) ∨
    (l.op = 7 ∧ okNum l.reg l.loc l.label = true) ∨ (l.op = 8 ∧ okLab l.reg l.loc l.label l.n = true) ∨ (l.op = 9 ∧ okLab l.reg l.loc l.label l.n = true) ∨
    (l.op = 10 ∧ okLab l.reg l.loc l.label l.n = true) ∨ (l.op = 11 ∧ okLab l.reg l.loc l.label l.n = true) := by
  unfold rightL right at h
  by_cases h1 : l.op = 1
  · exact .inl ⟨h1, by simpa [h1] using h⟩
  by_cases h2 : l.op = 2
  · exact .inr (.inl ⟨h2, by simpa [h2] using h⟩)
  by_cases h3 : l.op = 3
  · exact .inr (.inr (.inl ⟨h3, by simpa [h3] using h⟩))
  by_cases h4 : l.op = 4
  · exact .inr (.inr (.inr (.inl ⟨h4, by simpa [h4] using h⟩)))
  by_cases h5 : l.op = 5
  · exact .inr (.inr (.inr (.inr (.inl ⟨h5, by simpa [h5] using h⟩))))
  by_cases h6 : l.op = 6
  · exact .inr (.inr (.inr (.inr (.inr (.inl ⟨h6, by simpa [h6] using h⟩)))))
  by_cases h7 : l.op = 7
  · exact .inr (.inr (.inr (.inr (.inr (.inr (.inl ⟨h7, by simpa [h7] using h⟩))))))
  by_cases h8 : l.op = 8
  · exact .inr (.inr (.inr (.inr (.inr (.inr (.inr (.inl ⟨h8, by simpa [h8] using h⟩)))))))
  by_cases h9 : l.op = 9
  · exact .inr (.inr (.inr (.inr (.inr (.inr (.inr (.inr (.inl ⟨h9, by simpa [h9] using h⟩))))))))
  by_cases h10 : l.op = 10
  · exact .inr (.inr (.inr (.inr (.inr (.inr (.inr (.inr (.inr (.inl ⟨h10, by simpa [h10] using h⟩)))))))))
  by_cases h11 : l.op = 11
  · exact .inr (.inr (.inr (.inr (.inr (.inr (.inr (.inr (.inr (.inr ⟨h11, by simpa [h11] using h⟩)))))))))
  simp [h1, h2, h3, h4, h5, h6, h7, h8, h9, h10, h11] at h

theorem okNum_iff {r o b : L} : okNum r o b = true ↔ (regB r = true ∧ o = [] ∧ b = []) := by simp [okNum, emp]
theorem okLoc_iff {r o b : L} {n : Int} : okLoc r o b n = true ↔ (regB r = true ∧ WordM.nameB o = true ∧ b = [] ∧ n = 0) := by simp [okLoc, emp, nil0]
theorem okLab_iff {r o b : L} {n : Int} : okLab r o b n = true ↔ (WordM.nameB b = true ∧ r = [] ∧ o = [] ∧ n = 0) := by simp [okLab, emp, nil0]
theorem okPut_iff {r o b : L} : okPut r o b = true ↔ (WordM.nameB o = true ∧ r = [] ∧ b = []) := by simp [okPut, emp]
theorem okFen_iff {r o b : L} {n : Int} : okFen r o b n = true ↔ (r = [] ∧ o = [] ∧ b = [] ∧ n = 0) := by simp [okFen, emp, nil0]

/-- Bytes of registers, names, numbers. -/
theorem reg_cases {r : L} (h : regB r = true) : r = [101, 97, 120] ∨ r = [101, 98, 120] ∨ r = [101, 99, 120] ∨ r = [101, 100, 120] := by
  rcases WordM.regNo_cases r with ⟨e, _⟩ | ⟨k, hk, e, _⟩
  · simp [regB, e] at h
  · match k, hk with
    | 0, _ => exact .inl e
    | 1, _ => exact .inr (.inl e)
    | 2, _ => exact .inr (.inr (.inl e))
    | 3, _ => exact .inr (.inr (.inr e))
theorem get_reg {r : L} (h : regB r = true) : (NumM.get r).2 = false := by
  rcases reg_cases h with rfl | rfl | rfl | rfl <;> decide +kernel
theorem text_ne_brk (n : Int) (h : NumM.inR n) (o : L) : NumM.text n ≠ brk o := by
  intro e
  obtain ⟨c, q, e2, h1, h2⟩ := NumM.text_head n h
  rw [e] at e2
  injection e2 with e3 _
  subst e3
  have := NumM.digs_digit n.natAbs (by have := NumM.natAbs_lt n h; omega)
  unfold NumM.text brk at e
  split at e
  · injection e with e _
    exact absurd e (by decide)
  · have := this 91 (by rw [e]; simp)
    exact absurd this.2 (by decide)
theorem get_brk (o : L) : (NumM.get (brk o)).2 = false := by
  rcases NumM.get_eq (brk o) with ⟨n, hn, e, _⟩ | ⟨_, e⟩
  · exact absurd e (text_ne_brk n hn o)
  · rw [e]
theorem reg_brk (o : L) : regB (brk o) = false := by
  cases h : regB (brk o) with
  | false => rfl
  | true =>
    rcases reg_cases h with e | e | e | e <;> exact absurd e (by simp [brk])

theorem words_of {l : Ln} (h : rightL l = true) : wordsL l = wordsR l.op l.reg l.loc l.label l.n := by
  unfold wordsL words; exact if_pos h

/-- There and back. -/
theorem made_words {l : Ln} (h : rightL l = true) (hn : NumM.inR l.n) : made (wordsL l) = l := by
  rw [words_of h]
  rcases right_cases h with ⟨ho, hk⟩ | ⟨ho, hk⟩ | ⟨ho, hk⟩ | ⟨ho, hk⟩ | ⟨ho, hk⟩ | ⟨ho, hk⟩ | ⟨ho, hk⟩ | ⟨ho, hk⟩ | ⟨ho, hk⟩ | ⟨ho, hk⟩ | ⟨ho, hk⟩
  · obtain ⟨h1, h2, h3⟩ := okNum_iff.1 hk
    have e : wordsR l.op l.reg l.loc l.label l.n = [kmov, l.reg, NumM.text l.n] := by simp [wordsR, ho]
    rw [e]
    refine Ln.same ?_ ?_ ?_ ?_ ?_ <;> simp [made, worked, moved, NumM.get_text _ hn, h1, h2, h3, ho]
  · obtain ⟨h1, h2, h3, h4⟩ := okLoc_iff.1 hk
    have e : wordsR l.op l.reg l.loc l.label l.n = [kmov, l.reg, brk l.loc] := by simp [wordsR, ho]
    rw [e]
    refine Ln.same ?_ ?_ ?_ ?_ ?_ <;> simp [made, worked, moved, get_brk, h1, h3, h4, ho, inside_brk]
  · obtain ⟨h1, h2, h3, h4⟩ := okLoc_iff.1 hk
    have e : wordsR l.op l.reg l.loc l.label l.n = [kmov, brk l.loc, l.reg] := by simp [wordsR, ho]
    rw [e]
    refine Ln.same ?_ ?_ ?_ ?_ ?_ <;> simp [made, worked, moved, get_reg h1, reg_brk, h3, h4, ho, inside_brk]
  · obtain ⟨h1, h2, h3⟩ := okPut_iff.1 hk
    have e : wordsR l.op l.reg l.loc l.label l.n = [kmov, brk l.loc, NumM.text l.n] := by simp [wordsR, ho]
    rw [e]
    refine Ln.same ?_ ?_ ?_ ?_ ?_ <;> simp [made, worked, moved, NumM.get_text _ hn, reg_brk, h2, h3, ho, inside_brk]
  · obtain ⟨h1, h2, h3, h4⟩ := okLoc_iff.1 hk
    have e : wordsR l.op l.reg l.loc l.label l.n = [kxchg, brk l.loc, l.reg] := by simp [wordsR, ho]
    rw [e]
    refine Ln.same ?_ ?_ ?_ ?_ ?_ <;> simp [made, worked, show kxchg ≠ kmov by decide, h3, h4, ho, inside_brk]
  · obtain ⟨h1, h2, h3, h4⟩ := okFen_iff.1 hk
    have e : wordsR l.op l.reg l.loc l.label l.n = [kmfence] := by simp [wordsR, ho]
    rw [e]
    refine Ln.same ?_ ?_ ?_ ?_ ?_ <;> simp [made, alone, h1, h2, h3, h4, ho]
  · obtain ⟨h1, h2, h3⟩ := okNum_iff.1 hk
    have e : wordsR l.op l.reg l.loc l.label l.n = [kcmp, l.reg, NumM.text l.n] := by simp [wordsR, ho]
    rw [e]
    refine Ln.same ?_ ?_ ?_ ?_ ?_ <;> simp [made, worked, show kcmp ≠ kmov by decide, show kcmp ≠ kxchg by decide, NumM.get_text _ hn, h2, h3, ho]
  · obtain ⟨h1, h2, h3, h4⟩ := okLab_iff.1 hk
    have e : wordsR l.op l.reg l.loc l.label l.n = [kjmp, l.label] := by simp [wordsR, ho]
    rw [e]
    refine Ln.same ?_ ?_ ?_ ?_ ?_ <;> simp [made, jumped, h2, h3, h4, ho]
  · obtain ⟨h1, h2, h3, h4⟩ := okLab_iff.1 hk
    have e : wordsR l.op l.reg l.loc l.label l.n = [kje, l.label] := by simp [wordsR, ho]
    rw [e]
    refine Ln.same ?_ ?_ ?_ ?_ ?_ <;> simp [made, jumped, show kje ≠ kjmp by decide, h2, h3, h4, ho]
  · obtain ⟨h1, h2, h3, h4⟩ := okLab_iff.1 hk
    have e : wordsR l.op l.reg l.loc l.label l.n = [kjne, l.label] := by simp [wordsR, ho]
    rw [e]
    refine Ln.same ?_ ?_ ?_ ?_ ?_ <;> simp [made, jumped, show kjne ≠ kjmp by decide, show kjne ≠ kje by decide, h2, h3, h4, ho]
  · obtain ⟨h1, h2, h3, h4⟩ := okLab_iff.1 hk
    have e : wordsR l.op l.reg l.loc l.label l.n = [col l.label] := by simp [wordsR, ho]
    rw [e]
    refine Ln.same ?_ ?_ ?_ ?_ ?_ <;> simp [made, alone, col_fence, offEnd_col, h2, h3, h4, ho]

theorem get_words {l : Ln} (h : rightL l = true) (hn : NumM.inR l.n) : get (wordsL l) = (l, true) := by
  unfold get; rw [made_words h hn, h]; simp
theorem get_wrong {l : Ln} (h : rightL l = false) : wordsL l = [] := by
  unfold wordsL words; rw [show right l.op l.reg l.loc l.label l.n = false from h]; rfl
theorem get_nil : get [] = (zero, false) := by
  unfold get; rw [show rightL (made []) = false by decide +kernel]; rfl
theorem get_spec (w : List L) : (rightL (made w) = true ∧ wordsL (made w) = w ∧ get w = (made w, true)) ∨ (get w = (zero, false) ∧ ∀ l, rightL l = true → NumM.inR l.n → wordsL l ≠ w) := by
  by_cases h : rightL (made w) = true ∧ wordsL (made w) = w
  · exact .inl ⟨h.1, h.2, by unfold get; rw [h.1, decide_eq_true h.2]; rfl⟩
  · refine .inr ⟨?_, fun l h1 hn h2 => h ?_⟩
    · unfold get
      rw [if_neg (by simpa using h)]
    · rw [← h2, made_words h1 hn]; exact ⟨h1, rfl⟩
theorem made_range (w : List L) : NumM.inR (made w).n := by
  have h0 := NumM.inR_zero
  unfold made
  split
  · unfold alone; split <;> exact h0
  · unfold jumped; split
    · exact h0
    · split
      · exact h0
      · split <;> exact h0
  · unfold worked; split
    · unfold moved; split
      · split <;> exact NumM.get_range _
      · split <;> exact h0
    · split
      · exact h0
      · split
        · exact NumM.get_range _
        · exact h0
  · exact h0
theorem words_inj {l m : Ln} (hl : rightL l = true) (hm : rightL m = true) (nl : NumM.inR l.n) (nm : NumM.inR m.n) (h : wordsL l = wordsL m) : l = m := by
  rw [← made_words hl nl, h, made_words hm nm]
end Go.Proofs.YtmpjcfehabnhgaaDoor.OpsM
namespace Go.Proofs.YtmpjcfehabnhgaaDoor
open Go.RowKit
set_option linter.unusedVariables false
open WordM (L)

/-- A text as a value. -/
def sv (l : L) : Value := .string ⟨l.toArray⟩
def svs (ls : List L) : List Value := ls.map sv
theorem str_eta (s : ByteArray) : (⟨s.data.toList.toArray⟩ : ByteArray) = s := rfl
theorem sv_data (s : ByteArray) : sv s.data.toList = .string s := rfl
theorem svs_len (ls : List L) : (svs ls).length = ls.length := by simp [svs]
theorem svs_snoc (ls : List L) (l : L) : svs (ls ++ [l]) = svs ls ++ [sv l] := by simp [svs]
theorem svs_app (a b : List L) : svs (a ++ b) = svs a ++ svs b := by simp [svs]

/-- The value v is a slice that reads as the texts ls, in a block below B. -/
def Strs (B : Nat) (w : World) (v : Value) (ls : List L) : Prop :=
  ∃ A c, v = .slice A ls.length c ∧ ls.length ≤ c ∧ c ≤ maxLen ∧
    (0 < ls.length → ∃ b f, A = some ⟨b, f, none⟩ ∧ b < B ∧ ∀ j (h : j < ls.length), w.cell? ⟨b, f + j, none⟩ = some (sv ls[j]))

theorem strs_below {B : Nat} {w w' : World} {v : Value} {ls : List L} (h : Strs B w v ls) (hb : Below B w w') : Strs B w' v ls := by
  obtain ⟨A, c, e, h1, h2, h3⟩ := h
  refine ⟨A, c, e, h1, h2, fun k => ?_⟩
  obtain ⟨b, f, e2, h4, h5⟩ := h3 k
  exact ⟨b, f, e2, h4, fun j hj => (hb.cell (p := ⟨b, f + j, none⟩) h4).trans (h5 j hj)⟩
theorem strs_more {B B' : Nat} {w : World} {v : Value} {ls : List L} (h : Strs B w v ls) (hb : B ≤ B') : Strs B' w v ls := by
  obtain ⟨A, c, e, h1, h2, h3⟩ := h
  refine ⟨A, c, e, h1, h2, fun k => ?_⟩
  obtain ⟨b, f, e2, h4, h5⟩ := h3 k
  exact ⟨b, f, e2, by omega, h5⟩
theorem strs_own {base T : Nat} {w : World} {v : Value} {ls : List L} (h : w.ownsRow base T 1 v ls.length (svs ls)) : Strs w.heap.size w v ls := by
  obtain ⟨h0, h⟩ := h
  rcases h with ⟨rfl, h1⟩ | ⟨g, cap, cur, rfl, h2, h3, h4, h5, h6, h7⟩
  · refine ⟨none, 0, by rw [h1], by omega, by unfold maxLen; omega, fun k => by omega⟩
  · refine ⟨_, cap, rfl, h4, h5, fun k => ⟨g, 0, rfl, (Array.getElem?_eq_some_iff.1 h3).1, fun j hj => ?_⟩⟩
    rw [Nat.zero_add]
    have : w.cell? ⟨g, j, none⟩ = cur[j]? := by simp [World.cell?, h3]
    rw [this]
    have e : (svs ls)[j]? = some (sv ls[j]) := by simp [svs, hj]
    rw [← h7, List.getElem?_take_of_lt (by omega), Array.getElem?_toList] at e
    exact e
/-- What a slice owns it owns on, while nothing below its block's bound turns. -/
theorem own_below {base e size n : Nat} {w w' : World} {v : Value} {xs : List Value} (h : w.ownsRow base e size v n xs) (hb : Below w.heap.size w w') : w'.ownsRow base e size v n xs :=
  h.kept (row := none) ⟨hb.os, hb.tape, hb.output, hb.size, fun k hk _ => hb.block k hk⟩ (by
    rcases h.2 with ⟨rfl, _⟩ | ⟨g, cap, cur, rfl, _⟩
    · exact .inl rfl
    · right; simp [Value.ownBlock])
theorem own_base {base base' e size n : Nat} {w : World} {v : Value} {xs : List Value} (h : w.ownsRow base e size v n xs) (hb : base' ≤ base) : w.ownsRow base' e size v n xs := by
  obtain ⟨h0, h⟩ := h
  refine ⟨h0, ?_⟩
  rcases h with h | ⟨g, cap, cur, h1, h2, h3⟩
  · exact .inl h
  · exact .inr ⟨g, cap, cur, h1, by omega, h3⟩

/-- What a call says that hands back a slice of the texts ls, in memory of its own. -/
def RetStrs (ls : List L) (w : World) (e : Ending) (w' : World) : Prop :=
  ∃ v, e = .returned v ∧ w'.ownsRow w.heap.size 9 1 v ls.length (svs ls) ∧ Below w.heap.size w w'

theorem own_drewN {base e size n : Nat} {w : World} {v : Value} {xs : List Value} (h : w.ownsRow base e size v n xs) (k : Nat) : (w.drewN k).ownsRow base e size v n xs := h
/-- Behind an append onto what the call itself made: all that lay below stays. -/
theorem below_append {B base e size n : Nat} {W0 W w1 : World} {v : Value} {xs : List Value} (hB : Below B W0 W) (hown : W.ownsRow base e size v n xs) (hbb : B ≤ base) (hs : B ≤ W.heap.size) (hg : W.grownBy w1 v.ownBlock) : Below B W0 w1 := by
  refine hB.grown hg hs fun j ej => ?_
  have := hown.lt j ej
  omega
theorem info_string : (Tryd.prog.info? 9).map (fun i => (i.zero, i.size, i.bytes)) = some (some (.string ⟨#[]⟩), 1, 16) := by kernel_rfl
end Go.Proofs.YtmpjcfehabnhgaaDoor
namespace Go.Proofs.YtmpjcfehabnhgaaDoor
open Go.RowKit
set_option linter.unusedVariables false
set_option linter.unusedSimpArgs false
open WordM (L)

/-- A line as a value. -/
def lnv (op : Int) (r o b : ByteArray) (n : Int) : Value := .agg #[.int .i64 op, .string r, .string o, .string b, .int .i64 n]

theorem ret_bool {a b : Bool} (h : a = b) : Ending.returned (.bool a) = .returned (.bool b) := by rw [h]
theorem emp_of (s : ByteArray) : OpsM.emp s.data.toList = decide (s.toList = []) := by unfold OpsM.emp; rw [Lib.toList_data]

end Go.Proofs.YtmpjcfehabnhgaaDoor
namespace Go.Proofs.YtmpjcfehabnhgaaDoor.AtomM
open WordM (L)
open OpsM (regB)
set_option linter.unusedVariables false

structure At where
  t : Int
  nm : L
  n : Int
theorem At.same {a b : At} (h0 : a.t = b.t) (h1 : a.nm = b.nm) (h2 : a.n = b.n) : a = b := by cases a; cases b; simp_all

def asked (t : Int) (nm : L) : Bool := if t = -1 then WordM.nameB nm else (decide (0 ≤ t) && (decide (t < 3) && regB nm))
def wordR (t : Int) (nm : L) (n : Int) : L := if t = -1 then nm ++ 61 :: NumM.text n else NumM.text t ++ 58 :: (nm ++ 61 :: NumM.text n)
def word (t : Int) (nm : L) (n : Int) : L := if asked t nm then wordR t nm n else []
def before (c : UInt8) (l : L) : L := l.takeWhile (· != c)
def after (c : UInt8) (l : L) : L := (l.dropWhile (· != c)).tail
theorem before_at (c : UInt8) (a r : L) (h : c ∉ a) : before c (a ++ c :: r) = a := by
  unfold before
  rw [List.takeWhile_append_of_pos (fun x hx => by simp; intro e; subst e; exact h hx)]
  simp
theorem after_at (c : UInt8) (a r : L) (h : c ∉ a) : after c (a ++ c :: r) = r := by
  unfold after
  rw [List.dropWhile_append_of_pos (fun x hx => by simp; intro e; subst e; exact h hx)]
  simp
theorem before_none (c : UInt8) (a : L) (h : c ∉ a) : before c a = a := by
  unfold before
  have := List.takeWhile_append_of_pos (p := (· != c)) (l₁ := a) (l₂ := []) (fun x hx => by simp; intro e; subst e; exact h hx)
  simpa using this
theorem after_none (c : UInt8) (a : L) (h : c ∉ a) : after c a = [] := by
  unfold after
  have := List.dropWhile_append_of_pos (p := (· != c)) (l₁ := a) (l₂ := []) (fun x hx => by simp; intro e; subst e; exact h hx)
  rw [List.append_nil] at this
  rw [this]; rfl
def guess (s : L) : At :=
  if 58 ∈ before 61 s then ⟨(NumM.get (before 58 (before 61 s))).1, after 58 (before 61 s), (NumM.get (after 61 s)).1⟩ else ⟨-1, before 61 s, (NumM.get (after 61 s)).1⟩
def zero : At := ⟨0, [], 0⟩
def askedA (a : At) : Bool := asked a.t a.nm
def wordA (a : At) : L := word a.t a.nm a.n
def atom (s : L) : At × Bool := if askedA (guess s) && decide (wordA (guess s) = s) then (guess s, true) else (zero, false)

theorem alnum_ne {b : UInt8} (h : WordM.alnum b = true) : b ≠ 61 ∧ b ≠ 58 := by
  constructor <;> intro e <;> subst e <;> exact absurd h (by decide)
theorem name_alnum {l : L} (h : WordM.nameB l = true) : ∀ b ∈ l, WordM.alnum b = true := by
  unfold WordM.nameB at h
  simp only [Bool.and_eq_true] at h
  have := (WordM.speltB_iff l).1 h.1.1
  intro b hb
  obtain ⟨k, hk, rfl⟩ := List.mem_iff_getElem.1 hb
  exact this.2.2.2 k hk
theorem name_free {l : L} (h : WordM.nameB l = true) : 61 ∉ l ∧ 58 ∉ l :=
  ⟨fun k => (alnum_ne (name_alnum h 61 k)).1 rfl, fun k => (alnum_ne (name_alnum h 58 k)).2 rfl⟩
theorem name_ne {l : L} (h : WordM.nameB l = true) : l ≠ [] := by
  intro e; subst e; exact absurd h (by decide)
theorem reg_free {l : L} (h : regB l = true) : 61 ∉ l ∧ 58 ∉ l ∧ l.length = 3 := by
  rcases OpsM.reg_cases h with rfl | rfl | rfl | rfl <;> decide
theorem asked_cases {a : At} (h : askedA a = true) : (a.t = -1 ∧ WordM.nameB a.nm = true) ∨ ((a.t = 0 ∨ a.t = 1 ∨ a.t = 2) ∧ regB a.nm = true) := by
  unfold askedA asked at h
  by_cases e : a.t = -1
  · rw [if_pos e] at h; exact .inl ⟨e, h⟩
  · rw [if_neg e] at h
    simp only [Bool.and_eq_true, decide_eq_true_eq] at h
    exact .inr ⟨by omega, h.2.2⟩
theorem thread_text {t : Int} (h : t = 0 ∨ t = 1 ∨ t = 2) : NumM.text t = [UInt8.ofNat (48 + t.toNat)] ∧ NumM.inR t ∧ t ≠ -1 := by
  rcases h with rfl | rfl | rfl <;> exact ⟨by decide +kernel, by unfold NumM.inR; decide, by decide⟩
theorem word_asked {a : At} (h : askedA a = true) : wordA a = wordR a.t a.nm a.n := by unfold wordA word; exact if_pos h
theorem word_own {a : At} (h : askedA a = true) (ht : a.t = -1) : wordA a = a.nm ++ 61 :: NumM.text a.n := by
  rw [word_asked h]; unfold wordR; rw [if_pos ht]
theorem word_reg {a : At} (h : askedA a = true) (ht : a.t = 0 ∨ a.t = 1 ∨ a.t = 2) : wordA a = (NumM.text a.t ++ 58 :: a.nm) ++ 61 :: NumM.text a.n := by
  rw [word_asked h]; unfold wordR; rw [if_neg (thread_text ht).2.2]; simp
theorem reg_part {t : Int} {nm : L} (ht : t = 0 ∨ t = 1 ∨ t = 2) (hk : regB nm = true) : 61 ∉ NumM.text t ++ 58 :: nm := by
  have h := reg_free hk
  have d : 61 ∉ NumM.text t := by rcases ht with rfl | rfl | rfl <;> decide +kernel
  simp only [List.mem_append, List.mem_cons, not_or]
  exact ⟨d, by decide, h.1⟩
theorem thread_free {t : Int} (ht : t = 0 ∨ t = 1 ∨ t = 2) : 58 ∉ NumM.text t := by rcases ht with rfl | rfl | rfl <;> decide +kernel

/-- There and back. -/
theorem guess_word {a : At} (h : askedA a = true) (hn : NumM.inR a.n) : guess (wordA a) = a := by
  rcases asked_cases h with ⟨ht, hk⟩ | ⟨ht, hk⟩
  · have f := name_free hk
    rw [word_own h ht]
    unfold guess
    rw [before_at _ _ _ f.1, after_at _ _ _ f.1, if_neg f.2, NumM.get_text _ hn]
    exact At.same ht.symm rfl rfl
  · rw [word_reg h ht]
    unfold guess
    rw [before_at _ _ _ (reg_part ht hk), after_at _ _ _ (reg_part ht hk), if_pos (by simp), before_at _ _ _ (thread_free ht), after_at _ _ _ (thread_free ht), NumM.get_text _ hn, NumM.get_text _ (thread_text ht).2.1]
theorem atom_word {a : At} (h : askedA a = true) (hn : NumM.inR a.n) : atom (wordA a) = (a, true) := by
  unfold atom; rw [guess_word h hn, h]; simp
theorem word_wrong {a : At} (h : askedA a = false) : wordA a = [] := by
  unfold wordA word; rw [show asked a.t a.nm = false from h]; rfl
theorem word_ne {a : At} (h : askedA a = true) : wordA a ≠ [] := by
  rw [word_asked h]; unfold wordR; split <;> simp
theorem guess_range (s : L) : NumM.inR (guess s).n := by
  unfold guess; split <;> exact NumM.get_range _
theorem guess_thread (s : L) : NumM.inR (guess s).t := by
  unfold guess; split
  · exact NumM.get_range _
  · show NumM.inR (-1)
    unfold NumM.inR; decide
theorem atom_spec (s : L) : (askedA (guess s) = true ∧ wordA (guess s) = s ∧ atom s = (guess s, true)) ∨ (atom s = (zero, false) ∧ ∀ a, askedA a = true → NumM.inR a.n → wordA a ≠ s) := by
  by_cases h : askedA (guess s) = true ∧ wordA (guess s) = s
  · exact .inl ⟨h.1, h.2, by unfold atom; rw [h.1, decide_eq_true h.2]; rfl⟩
  · refine .inr ⟨?_, fun a h1 hn h2 => h ?_⟩
    · unfold atom
      rw [if_neg (by simpa using h)]
    · rw [← h2, guess_word h1 hn]; exact ⟨h1, rfl⟩
theorem word_inj {a b : At} (ha : askedA a = true) (hb : askedA b = true) (na : NumM.inR a.n) (nb : NumM.inR b.n) (h : wordA a = wordA b) : a = b := by
  rw [← guess_word ha na, h, guess_word hb nb]

/-- What the document's Atom makes of a text. -/
def rguess (s : L) : At :=
  if 2 < (before 61 s).length ∧ (before 61 s)[1]? = some 58 then ⟨(((before 61 s).headD 0).toNat : Int) - 48, (before 61 s).drop 2, (NumM.get (after 61 s)).1⟩ else ⟨-1, before 61 s, (NumM.get (after 61 s)).1⟩
def ratom (s : L) : At × Bool := if 61 ∈ s then (if (NumM.get (after 61 s)).2 && decide (wordA (rguess s) = s) then (rguess s, true) else (zero, false)) else (zero, false)
theorem rguess_range (s : L) : NumM.inR (rguess s).n := by
  unfold rguess; split <;> exact NumM.get_range _
theorem rguess_word {a : At} (h : askedA a = true) (hn : NumM.inR a.n) : 61 ∈ wordA a ∧ (NumM.get (after 61 (wordA a))).2 = true ∧ rguess (wordA a) = a := by
  rcases asked_cases h with ⟨ht, hk⟩ | ⟨ht, hk⟩
  · have f := name_free hk
    rw [word_own h ht]
    refine ⟨by simp, by rw [after_at _ _ _ f.1, NumM.get_text _ hn], ?_⟩
    unfold rguess
    rw [before_at _ _ _ f.1, after_at _ _ _ f.1, if_neg, NumM.get_text _ hn]
    · exact At.same ht.symm rfl rfl
    · intro hh
      exact f.2 (List.mem_of_getElem? hh.2)
  · have hp := reg_part ht hk
    have hf := reg_free hk
    rw [word_reg h ht]
    refine ⟨by simp, by rw [after_at _ _ _ hp, NumM.get_text _ hn], ?_⟩
    unfold rguess
    rw [before_at _ _ _ hp, after_at _ _ _ hp, NumM.get_text _ hn, (thread_text ht).1]
    rw [if_pos (by simp; omega)]
    refine At.same ?_ rfl rfl
    rcases ht with e | e | e <;> (simp [e])
theorem ratom_eq (s : L) : ratom s = atom s := by
  rcases atom_spec s with ⟨h1, h2, h3⟩ | ⟨h3, hno⟩
  · rw [h3]
    obtain ⟨g1, g2, g3⟩ := rguess_word h1 (guess_range s)
    rw [h2] at g1 g2 g3
    unfold ratom
    rw [if_pos g1, g3, g2, h2]; simp
  · rw [h3]
    unfold ratom
    split
    · split
      · rename_i h61 hh
        simp only [Bool.and_eq_true, decide_eq_true_eq] at hh
        exfalso
        cases hask : askedA (rguess s) with
        | true => exact hno _ hask (rguess_range s) hh.2
        | false =>
          have := word_wrong hask
          rw [hh.2] at this
          subst this
          simp at h61
      · rfl
    · rfl
end Go.Proofs.YtmpjcfehabnhgaaDoor.AtomM
namespace Go.Proofs.YtmpjcfehabnhgaaDoor
open Go.RowKit
set_option linter.unusedVariables false
set_option linter.unusedSimpArgs false
open WordM (L)

/-- An atom as a value. -/
def atv (t : Int) (nm : ByteArray) (n : Int) : Value := .agg #[.int .i64 t, .string nm, .int .i64 n]
def atw (a : AtomM.At) : Value := atv a.t ⟨a.nm.toArray⟩ a.n

theorem below_undrew {w w' : World} (h : Below w.drew.heap.size w.drew w') : Below w.heap.size w w' := (below_drewN (Below.refl w.heap.size w) 1).trans h
end Go.Proofs.YtmpjcfehabnhgaaDoor
namespace Go.Proofs.YtmpjcfehabnhgaaDoor
open Go.RowKit
set_option linter.unusedVariables false
set_option linter.unusedSimpArgs false
open WordM (L)

theorem kc {W w' : World} {g i : Nat} {v : Value} (hB : Below W.heap.size W w') (h : W.cell? ⟨g, i, none⟩ = some v) : w'.cell? ⟨g, i, none⟩ = some v := (hB.cell (p := ⟨g, i, none⟩) (lt_of_cell h)).trans h
def LnBox (w : World) (g : Nat) (op : Int) (r o b : ByteArray) (n : Int) : Prop :=
  w.cell? ⟨g, 0, none⟩ = some (.int .i64 op) ∧ w.cell? ⟨g, 1, none⟩ = some (.string r) ∧ w.cell? ⟨g, 2, none⟩ = some (.string o) ∧ w.cell? ⟨g, 3, none⟩ = some (.string b) ∧ w.cell? ⟨g, 4, none⟩ = some (.int .i64 n)
def AtBox (w : World) (g : Nat) (t : Int) (nm : ByteArray) (n : Int) : Prop :=
  w.cell? ⟨g, 0, none⟩ = some (.int .i64 t) ∧ w.cell? ⟨g, 1, none⟩ = some (.string nm) ∧ w.cell? ⟨g, 2, none⟩ = some (.int .i64 n)
theorem LnBox.below {w w' : World} {g : Nat} {op n : Int} {r o b : ByteArray} (h : LnBox w g op r o b n) (hB : Below w.heap.size w w') : LnBox w' g op r o b n := by
  obtain ⟨h0, h1, h2, h3, h4⟩ := h
  exact ⟨kc hB h0, kc hB h1, kc hB h2, kc hB h3, kc hB h4⟩
theorem AtBox.below {w w' : World} {g : Nat} {t n : Int} {nm : ByteArray} (h : AtBox w g t nm n) (hB : Below w.heap.size w w') : AtBox w' g t nm n := by
  obtain ⟨h0, h1, h2⟩ := h
  exact ⟨kc hB h0, kc hB h1, kc hB h2⟩
theorem LnBox.alloc {w : World} {g : Nat} {op n : Int} {r o b : ByteArray} (h : LnBox w g op r o b n) (x : Obj) : LnBox (w.alloc x) g op r o b n := h.below ((Below.refl _ _).alloc (Nat.le_refl _) _)
theorem AtBox.alloc {w : World} {g : Nat} {t n : Int} {nm : ByteArray} (h : AtBox w g t nm n) (x : Obj) : AtBox (w.alloc x) g t nm n := h.below ((Below.refl _ _).alloc (Nat.le_refl _) _)
theorem LnBox.new (w : World) (op n : Int) (r o b : ByteArray) (T : TypeId) : LnBox (w.alloc (.cells #[.int .i64 op, .string r, .string o, .string b, .int .i64 n] T)) w.heap.size op r o b n := by
  refine ⟨?_, ?_, ?_, ?_, ?_⟩ <;> (rw [World.cell?_alloc_at _ _ _ _ rfl]; rfl)
theorem AtBox.new (w : World) (t n : Int) (nm : ByteArray) (T : TypeId) : AtBox (w.alloc (.cells #[.int .i64 t, .string nm, .int .i64 n] T)) w.heap.size t nm n := by
  refine ⟨?_, ?_, ?_⟩ <;> (rw [World.cell?_alloc_at _ _ _ _ rfl]; rfl)

theorem below_al {w a : World} (h : Below w.heap.size w a) (o : Obj) : Below w.heap.size w (a.alloc o) := h.alloc h.size o
theorem LnBox.at {w : World} {g : Nat} (hg : g = w.heap.size) (op n : Int) (r o b : ByteArray) (T : TypeId) : LnBox (w.alloc (.cells #[.int .i64 op, .string r, .string o, .string b, .int .i64 n] T)) g op r o b n := by
  subst hg; exact LnBox.new w op n r o b T
theorem AtBox.at {w : World} {g : Nat} (hg : g = w.heap.size) (t n : Int) (nm : ByteArray) (T : TypeId) : AtBox (w.alloc (.cells #[.int .i64 t, .string nm, .int .i64 n] T)) g t nm n := by
  subst hg; exact AtBox.new w t n nm T
end Go.Proofs.YtmpjcfehabnhgaaDoor
