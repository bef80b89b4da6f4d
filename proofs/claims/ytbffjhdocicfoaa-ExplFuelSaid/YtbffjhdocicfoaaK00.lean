/-
  PLAIN MATHEMATICS OF TEXTS: what lines and words are, over lists of bytes. It imports nothing of the program.
  PLAIN MATHEMATICS OF LAYER 1: decimal texts as lists of bytes, and the number that the bytes of a text make, wrapped round to 64 bits.
  SMALL FACTS that many texts of the seat use. Of no function of the program.
  SEARCH, MATHEMATICS: states wait in a row; of each one, in order, its successors are put behind, if they are new. Of no program.
  ENDS, IN SETS: mathematics. How rows of numbers are held against one another, ends, and what sets of them are. Of no program.
  SEARCH, MATHEMATICS, ON: the ways rise along the row, each is ahead of all others that lead to its state; the ends that are found. Of no program.
  SEARCH, MATHEMATICS, THE ENDS: what is found of a full row: each end by the first way in the row; all of them; the document's way to put one more. Of no program.
  SMALL FACTS on boxes: a struct's memory behind calls that make memory alone. Of no function of the program.
-/
import Derived.Lib.Strings
import Derived.Lib.Bytealg
import Derived.IntWalk
import Derived.Test.YtbffjhdocicfoaaRows
import Derived.WalkKit
import Derived.WalkSpells
import Derived.WalkLawsBesides
import Derived.Lib.Hide
import Derived.Laws.BytesArg
import Derived.Laws.Concat
import Derived.OpenShut
import Derived.Deep.QuietTactic
import Derived.BigQuiet
import Derived.LoopTactic
import Derived.RegionTactic
import Derived.Maps.AppendAt
set_option linter.unusedVariables false
set_option linter.unusedSimpArgs false
namespace Go.Proofs.Ytbffjhdocicfoaa.WordM
abbrev L := List UInt8

def consHd (b : UInt8) : List L → List L
  | [] => [[b]]
  | h :: t => (b :: h) :: t
/-- What stands between the bytes c, the last one too. -/
def split (c : UInt8) : L → List L
  | [] => [[]]
  | b :: l => if b = c then [] :: split c l else consHd b (split c l)
/-- The same, but for a last one that is empty. -/
def chunks (c : UInt8) : L → List L
  | [] => []
  | b :: l => if b = c then [] :: chunks c l else consHd b (chunks c l)
def full (l : L) : Bool := !l.isEmpty
def words (s : L) : List L := (chunks 32 s).filter full

theorem consHd_ne (b : UInt8) (r : List L) : consHd b r ≠ [] := by cases r <;> simp [consHd]
theorem consHd_app (b : UInt8) (r q : List L) (h : r ≠ []) : consHd b (r ++ q) = consHd b r ++ q := by
  cases r with
  | nil => exact absurd rfl h
  | cons x r => rfl
theorem chunks_ne (c : UInt8) (l : L) (h : l ≠ []) : chunks c l ≠ [] := by
  cases l with
  | nil => exact absurd rfl h
  | cons b l =>
    unfold chunks; split
    · simp
    · exact consHd_ne _ _
theorem split_ne (c : UInt8) (l : L) : split c l ≠ [] := by
  cases l with
  | nil => simp [split]
  | cons b l =>
    unfold split; split
    · simp
    · exact consHd_ne _ _
theorem chunks_none (c : UInt8) : ∀ (a : L), c ∉ a → a ≠ [] → chunks c a = [a]
  | [], _, h => absurd rfl h
  | [b], h, _ => by
    rw [List.mem_cons, not_or] at h
    rw [chunks, if_neg (fun e => h.1 e.symm)]; rfl
  | b :: d :: a, h, _ => by
    rw [List.mem_cons, not_or] at h
    rw [chunks, if_neg (fun e => h.1 e.symm), chunks_none c (d :: a) h.2 (by simp)]; rfl
theorem chunks_cat (c : UInt8) : ∀ (a b : L), chunks c (a ++ c :: b) = chunks c (a ++ [c]) ++ chunks c b
  | [], b => by simp [chunks]
  | x :: a, b => by
    rw [List.cons_append, List.cons_append, chunks, chunks]
    by_cases h : x = c
    · rw [if_pos h, if_pos h, chunks_cat c a b]; rfl
    · rw [if_neg h, if_neg h, chunks_cat c a b, consHd_app _ _ _ (chunks_ne c _ (by simp))]
/-- The last one that is empty is all that parts them. -/
theorem split_chunks (c : UInt8) : ∀ l : L, split c l = chunks c l ++ [[]] ∨ (split c l = chunks c l ∧ ∃ r x, chunks c l = r ++ [x] ∧ x ≠ [])
  | [] => .inl rfl
  | b :: l => by
    unfold split chunks
    by_cases h : b = c
    · rw [if_pos h, if_pos h]
      rcases split_chunks c l with e | ⟨e, r, x, e2, hx⟩
      · exact .inl (by rw [e]; rfl)
      · exact .inr ⟨by rw [e], [] :: r, x, by rw [e2]; rfl, hx⟩
    · rw [if_neg h, if_neg h]
      rcases split_chunks c l with e | ⟨e, r, x, e2, hx⟩
      · rw [e]
        cases hq : chunks c l with
        | nil => exact .inr ⟨rfl, [], [b], rfl, by simp⟩
        | cons y t => exact .inl rfl
      · refine .inr ⟨by rw [e], ?_⟩
        rw [e2]
        cases r with
        | nil => exact ⟨[], b :: x, rfl, by simp⟩
        | cons y t => exact ⟨(b :: y) :: t, x, rfl, hx⟩
theorem words_split (s : L) : (split 32 s).filter full = words s := by
  unfold words
  rcases split_chunks 32 s with e | ⟨e, _⟩
  · rw [e, List.filter_append]; simp [full]
  · rw [e]
theorem split_snoc (c : UInt8) : ∀ a : L, split c (a ++ [c]) = split c a ++ [[]]
  | [] => by simp [split]
  | x :: a => by
    rw [List.cons_append, split, split]
    by_cases h : x = c
    · rw [if_pos h, if_pos h, split_snoc c a]; rfl
    · rw [if_neg h, if_neg h, split_snoc c a, consHd_app _ _ _ (split_ne c _)]
theorem words_cat (a b : L) : words (a ++ 32 :: b) = words a ++ words b := by
  have e1 : words (a ++ [32]) = words a := by
    rw [← words_split, ← words_split, split_snoc, List.filter_append]; simp [full]
  unfold words at *
  rw [chunks_cat, List.filter_append, e1]
theorem words_one (a : L) (h : (32 : UInt8) ∉ a) (hn : a ≠ []) : words a = [a] := by
  unfold words
  rw [chunks_none 32 a h hn]
  cases a with
  | nil => exact absurd rfl hn
  | cons => rfl
end Go.Proofs.Ytbffjhdocicfoaa.WordM
namespace Go.Proofs.Ytbffjhdocicfoaa
open Go.RowKit
namespace NumM

/-- The digits of a number, by fuel. -/
def digsF : Nat → Nat → List UInt8
  | 0, _ => []
  | f + 1, n => if n ≤ 9 then [UInt8.ofNat (48 + n)] else digsF f (n / 10) ++ [UInt8.ofNat (48 + n % 10)]

def digs (n : Nat) : List UInt8 := digsF 20 n

/-- A number's text. -/
def text (n : Int) : List UInt8 := if n < 0 then 45 :: digs n.natAbs else digs n.natAbs

def inR (n : Int) : Prop := -9223372036854775808 ≤ n ∧ n ≤ 9223372036854775807

/-- One step of 'made'. -/
def mstep (n : Int) (c : UInt8) : Int := wrap64 (wrap64 (10 * n) + ((c.toNat : Int) - 48) % 256)

def madeD (l : List UInt8) : Int := l.foldl mstep 0

def made : List UInt8 → Int
  | [] => 0
  | c :: r => if c = 45 then wrap64 (-madeD r) else madeD (c :: r)

theorem made_neg (r : List UInt8) : made (45 :: r) = wrap64 (-madeD r) := by simp [made]
theorem made_pos (l : List UInt8) (h : l.head? ≠ some 45) : made l = madeD l := by
  cases l with
  | nil => rfl
  | cons c r =>
    have hc : c ≠ 45 := by intro e; apply h; simp [e]
    simp [made, hc]

theorem digsF_mono : ∀ (f n : Nat), n < 10 ^ f → digsF (f + 1) n = digsF f n ∨ f = 0
  | 0, _, _ => .inr rfl
  | f + 1, n, h => by
    left
    by_cases h9 : n ≤ 9
    · simp [digsF, h9]
    · have hf : n / 10 < 10 ^ f := by
        rw [Nat.div_lt_iff_lt_mul (by omega)]
        rw [Nat.pow_succ] at h; exact h
      have hf0 : f ≠ 0 := by
        intro e; subst e; simp at h; omega
      have ih := (digsF_mono f (n / 10) hf).resolve_right hf0
      rw [digsF, if_neg h9, ih]
      conv => rhs; rw [digsF]
      rw [if_neg h9]

theorem digs_small (n : Nat) (h : n ≤ 9) : digs n = [UInt8.ofNat (48 + n)] := by simp [digs, digsF, h]
theorem digs_big (n : Nat) (h : ¬ n ≤ 9) (hb : n < 10 ^ 20) : digs n = digs (n / 10) ++ [UInt8.ofNat (48 + n % 10)] := by
  have h19 : n / 10 < 10 ^ 19 := by omega
  have := (digsF_mono 19 (n / 10) h19).resolve_right (by omega)
  show digsF 20 n = digsF 20 (n / 10) ++ _
  rw [this]
  conv => lhs; rw [digsF]
  rw [if_neg h]

/-- induction along the digits. -/
theorem digs_ind {P : Nat → Prop} (h0 : ∀ n, n ≤ 9 → P n) (h1 : ∀ n, ¬ n ≤ 9 → n < 10 ^ 20 → P (n / 10) → P n) : ∀ n, n < 10 ^ 20 → P n := by
  intro n
  induction n using Nat.strongRecOn with
  | _ n ih =>
    intro hn
    by_cases h : n ≤ 9
    · exact h0 n h
    · exact h1 n h hn (ih (n / 10) (by omega) (by omega))

theorem u8_toNat_small (k : Nat) (h : k ≤ 9) : (UInt8.ofNat (48 + k)).toNat = 48 + k := by
  rw [UInt8.toNat_ofNat']; omega

theorem wrap64_inR (n : Int) (h : inR n) : wrap64 n = n := IntWalk.wrap64_in n h

theorem wrap64_add (a b : Int) : wrap64 (wrap64 a + b) = wrap64 (a + b) := by unfold wrap64; omega
theorem wrap64_mul10 (a : Int) : wrap64 (10 * wrap64 a) = wrap64 (10 * a) := by unfold wrap64; omega
theorem wrap64_neg (a : Int) : wrap64 (-wrap64 a) = wrap64 (-a) := by unfold wrap64; omega
theorem mstep_digit (n : Int) (k : Nat) (h : k ≤ 9) : mstep n (UInt8.ofNat (48 + k)) = wrap64 (10 * n + k) := by
  unfold mstep
  rw [u8_toNat_small k h, wrap64_add]
  exact congrArg wrap64 (by omega)

theorem madeD_one (c : UInt8) : madeD [c] = mstep 0 c := by unfold madeD; rw [List.foldl_cons, List.foldl_nil]
theorem madeD_snoc (l : List UInt8) (c : UInt8) : madeD (l ++ [c]) = mstep (madeD l) c := by unfold madeD; rw [List.foldl_append, List.foldl_cons, List.foldl_nil]
theorem wrap64_10 (a b : Int) : wrap64 (10 * wrap64 a + b) = wrap64 (10 * a + b) := by
  rw [← wrap64_add, wrap64_mul10, wrap64_add]
theorem wrap64_congr {a b : Int} (h : a = b) : wrap64 a = wrap64 b := by rw [h]

theorem madeD_digs : ∀ n, n < 10 ^ 20 → madeD (digs n) = wrap64 n := by
  apply digs_ind
  · intro n h
    rw [digs_small n h, madeD_one, mstep_digit 0 n h]
    exact wrap64_congr (by omega)
  · intro n h hb ih
    rw [digs_big n h hb, madeD_snoc, ih, mstep_digit _ _ (by omega), wrap64_10]
    exact wrap64_congr (by omega)

/-- every byte of the digits is a digit. -/
theorem digs_digit : ∀ n, n < 10 ^ 20 → ∀ c ∈ digs n, 48 ≤ c.toNat ∧ c.toNat ≤ 57 := by
  apply digs_ind
  · intro n h c hc
    rw [digs_small n h] at hc
    simp only [List.mem_singleton] at hc
    subst hc
    rw [u8_toNat_small n h]; omega
  · intro n h hb ih c hc
    rw [digs_big n h hb] at hc
    simp only [List.mem_append, List.mem_singleton] at hc
    rcases hc with hc | hc
    · exact ih c hc
    · subst hc
      rw [u8_toNat_small _ (by omega)]; omega

theorem digs_ne : ∀ n, n < 10 ^ 20 → digs n ≠ [] := by
  apply digs_ind
  · intro n h; rw [digs_small n h]; simp
  · intro n h hb _; rw [digs_big n h hb]; simp

/-- the first digit: 0 of 0 alone. -/
theorem digs_head : ∀ n, n < 10 ^ 20 → ∃ c r, digs n = c :: r ∧ (c = 48 ↔ n = 0) := by
  apply digs_ind
  · intro n h
    refine ⟨_, [], digs_small n h, ?_⟩
    rw [← UInt8.toNat_inj, u8_toNat_small n h]
    simp
  · intro n h hb ih
    obtain ⟨c, r, e, hc⟩ := ih
    refine ⟨c, r ++ [UInt8.ofNat (48 + n % 10)], by rw [digs_big n h hb, e]; rfl, ?_⟩
    rw [hc]; omega

theorem digsF_len : ∀ (f k n : Nat), n < 10 ^ k → k ≤ f → 1 ≤ k → (digsF f n).length ≤ k
  | 0, k, n, _, h2, h3 => by omega
  | f + 1, k, n, h, h2, h3 => by
    by_cases h9 : n ≤ 9
    · simp [digsF, h9]; exact h3
    · obtain ⟨j, rfl⟩ : ∃ j, k = j + 1 := ⟨k - 1, by omega⟩
      have hj : j ≠ 0 := by intro e; subst e; simp at h; omega
      have hf : n / 10 < 10 ^ j := by
        rw [Nat.div_lt_iff_lt_mul (by omega)]
        rw [Nat.pow_succ] at h; exact h
      have := digsF_len f j (n / 10) hf (by omega) (by omega)
      simp [digsF, h9]; exact this

theorem natAbs_lt (n : Int) (h : inR n) : n.natAbs < 10 ^ 19 := by unfold inR at h; omega

theorem digs_len (n : Nat) (h : n < 10 ^ 19) : (digs n).length ≤ 19 := digsF_len 20 19 n h (by omega) (by omega)

theorem text_len (n : Int) (h : inR n) : (text n).length ≤ 20 := by
  have := digs_len n.natAbs (natAbs_lt n h)
  unfold text; split
  · simp; exact this
  · omega

theorem made_text (n : Int) (h : inR n) : made (text n) = n := by
  have hb := natAbs_lt n h
  have hd := madeD_digs n.natAbs (by omega)
  unfold text; split
  · rename_i hn
    rw [made_neg, hd, wrap64_neg, wrap64_inR _ (by unfold inR at *; omega)]
    omega
  · rename_i hn
    obtain ⟨c, r, e, _⟩ := digs_head n.natAbs (by omega)
    have hc := digs_digit n.natAbs (by omega) c (by rw [e]; simp)
    rw [made_pos _ (by rw [e]; intro k; simp at k; subst k; simp at hc), hd, wrap64_inR _ (by unfold inR at *; omega)]
    omega

/-- The number of a text, and whether it is one's. -/
def get (l : List UInt8) : Int × Bool := if text (made l) = l then (made l, true) else (0, false)

theorem get_text (n : Int) (h : inR n) : get (text n) = (n, true) := by simp [get, made_text n h]
/-- Which of two is less. -/
def cmpI (x y : Int) : Int := if x < y then -1 else if y < x then 1 else 0
end NumM
end Go.Proofs.Ytbffjhdocicfoaa
namespace Go.Proofs.Ytbffjhdocicfoaa
open Go.RowKit
open WordM (L)
set_option linter.unusedVariables false
theorem nil_cat (l : List UInt8) : (⟨#[]⟩ : ByteArray) ++ ⟨l.toArray⟩ = ⟨l.toArray⟩ := by
  apply ByteArray.ext
  rw [ByteArray.data_append]
  simp
/-- Frames' literals, in short (walks of regions by hand). -/
theorem pt8 : type_of% (And.intro @List.getElem_toArray.{0} (And.intro @List.getElem_cons_zero.{0} (And.intro @List.getElem_cons_succ.{0} (And.intro @Array.getInternal_eq_getElem.{0} (And.intro @List.setIfInBounds_toArray.{0} (And.intro @List.set_cons_zero.{0} @List.set_cons_succ.{0})))))) := ⟨@List.getElem_toArray, @List.getElem_cons_zero, @List.getElem_cons_succ, @Array.getInternal_eq_getElem, @List.setIfInBounds_toArray, @List.set_cons_zero, @List.set_cons_succ⟩
theorem chain {w a b : World} (h : Below w.heap.size w a) (k : Below a.heap.size a b) : Below w.heap.size w b := h.trans (k.mono h.size)
theorem below_drewN {B : Nat} {a w : World} (h : Below B a w) (n : Nat) : Below B a (w.drewN n) := ⟨h.os, h.tape, h.output, h.size, h.block⟩
end Go.Proofs.Ytbffjhdocicfoaa
namespace Go.Proofs.Ytbffjhdocicfoaa
set_option linter.unusedVariables false
set_option linter.unusedSimpArgs false
namespace ExM
section
variable {σ π : Type} [DecidableEq σ] (nx : σ → List (π × σ)) (s0 : σ)

abbrev Nd (σ π : Type) := σ × List π
def sts (l : List (Nd σ π)) : List σ := l.map (·.1)
/-- What w leads to. -/
inductive Leads : List π → σ → Prop
  | nil : Leads [] s0
  | snoc {w : List π} {s t : σ} {p : π} : Leads w s → (p, t) ∈ nx s → Leads (w ++ [p]) t
/-- One successor more. -/
def addN (w : List π) (l : List (Nd σ π)) (e : π × σ) : List (Nd σ π) := if e.2 ∈ sts l then l else l ++ [(e.2, w ++ [e.1])]
def expand (l : List (Nd σ π)) (n : Nd σ π) : List (Nd σ π) := (nx n.1).foldl (addN n.2) l
/-- The row when k of its states have been taken. -/
def row : Nat → List (Nd σ π)
  | 0 => [(s0, [])]
  | k + 1 => match (row k)[k]? with
    | some n => expand nx (row k) n
    | none => row k
theorem addN_pre (w : List π) (l : List (Nd σ π)) (e : π × σ) : ∃ r, addN w l e = l ++ r := by
  unfold addN; split
  · exact ⟨[], by simp⟩
  · exact ⟨_, rfl⟩
theorem fold_pre (w : List π) : ∀ (es : List (π × σ)) (l : List (Nd σ π)), ∃ r, es.foldl (addN w) l = l ++ r
  | [], l => ⟨[], by simp⟩
  | e :: es, l => by
    obtain ⟨r, hr⟩ := addN_pre w l e
    obtain ⟨q, hq⟩ := fold_pre w es (addN w l e)
    exact ⟨r ++ q, by rw [List.foldl_cons, hq, hr, List.append_assoc]⟩
theorem row_pre (k : Nat) : ∃ r, row nx s0 (k + 1) = row nx s0 k ++ r := by
  rw [row]; split
  · exact fold_pre _ _ _
  · exact ⟨[], by simp⟩
theorem row_pre2 (k : Nat) : ∀ d, ∃ r, row nx s0 (k + d) = row nx s0 k ++ r
  | 0 => ⟨[], by simp⟩
  | d + 1 => by
    obtain ⟨r, hr⟩ := row_pre2 k d
    obtain ⟨q, hq⟩ := row_pre nx s0 (k + d)
    exact ⟨r ++ q, by rw [← Nat.add_assoc, hq, hr, List.append_assoc]⟩
theorem row_at {k i : Nat} {n : Nd σ π} (h : (row nx s0 k)[i]? = some n) (d : Nat) : (row nx s0 (k + d))[i]? = some n := by
  obtain ⟨r, hr⟩ := row_pre2 nx s0 k d
  rw [hr, List.getElem?_append_left (List.getElem?_eq_some_iff.1 h).1]; exact h
theorem row_ne (k : Nat) : row nx s0 k ≠ [] := by
  obtain ⟨r, hr⟩ := row_pre2 nx s0 0 k
  rw [Nat.zero_add] at hr; rw [hr, row]; simp
/-- No state stands there twice. -/
theorem fold_nodup (w : List π) : ∀ (es : List (π × σ)) (l : List (Nd σ π)), (sts l).Nodup → (sts (es.foldl (addN w) l)).Nodup
  | [], l, h => h
  | e :: es, l, h => by
    rw [List.foldl_cons]
    refine fold_nodup w es _ ?_
    unfold addN; split
    · exact h
    · rename_i hn
      unfold sts at *
      rw [List.map_append]
      refine List.nodup_append.2 ⟨h, by simp, fun a ha b hb => ?_⟩
      intro e2; subst e2
      simp at hb; subst hb
      exact hn ha
theorem row_nodup : ∀ k, (sts (row nx s0 k)).Nodup
  | 0 => by simp [row, sts]
  | k + 1 => by
    rw [row]; split
    · exact fold_nodup _ _ _ (row_nodup k)
    · exact row_nodup k
/-- Each way leads to its state. -/
theorem fold_leads {n : Nd σ π} (hn : Leads nx s0 n.2 n.1) : ∀ (es : List (π × σ)) (l : List (Nd σ π)), (∀ e ∈ es, e ∈ nx n.1) → (∀ m ∈ l, Leads nx s0 m.2 m.1) → ∀ m ∈ es.foldl (addN n.2) l, Leads nx s0 m.2 m.1
  | [], l, _, h => h
  | e :: es, l, he, h => by
    rw [List.foldl_cons]
    refine fold_leads hn es _ (fun x hx => he x (List.mem_cons_of_mem _ hx)) ?_
    intro m hm
    unfold addN at hm; split at hm
    · exact h m hm
    · rcases List.mem_append.1 hm with hm | hm
      · exact h m hm
      · rw [List.mem_singleton.1 hm]; exact .snoc hn (he e (List.mem_cons_self ..))
theorem row_leads : ∀ k, ∀ m ∈ row nx s0 k, Leads nx s0 m.2 m.1
  | 0 => fun m hm => by rw [row, List.mem_singleton] at hm; subst hm; exact .nil
  | k + 1 => by
    rw [row]; split
    · rename_i n hn
      exact fold_leads nx s0 (row_leads k n (List.mem_of_getElem? hn)) _ _ (fun _ h => h) (row_leads k)
    · exact row_leads k
/-- What a fold puts behind: new ones, a pick longer; all successors stand there then. -/
theorem fold_new (w : List π) : ∀ (es : List (π × σ)) (l : List (Nd σ π)), ∃ r, es.foldl (addN w) l = l ++ r ∧ (∀ m ∈ r, m.2.length = w.length + 1) ∧ ∀ e ∈ es, e.2 ∈ sts (l ++ r)
  | [], l => ⟨[], by simp, by simp, by simp⟩
  | e :: es, l => by
    rw [List.foldl_cons]
    obtain ⟨r1, h1, h2, h3⟩ := fold_new w es (addN w l e)
    by_cases c : e.2 ∈ sts l
    · have ea : addN w l e = l := by unfold addN; rw [if_pos c]
      rw [ea] at h1 h3 ⊢
      refine ⟨r1, h1, h2, fun x hx => ?_⟩
      rcases List.mem_cons.1 hx with rfl | hx
      · unfold sts at *; rw [List.map_append]; exact List.mem_append_left _ c
      · exact h3 x hx
    · have ea : addN w l e = l ++ [(e.2, w ++ [e.1])] := by unfold addN; rw [if_neg c]
      rw [ea] at h1 h3 ⊢
      refine ⟨(e.2, w ++ [e.1]) :: r1, by rw [h1]; simp, fun m hm => ?_, fun x hx => ?_⟩
      · rcases List.mem_cons.1 hm with rfl | hm
        · simp
        · exact h2 m hm
      · rcases List.mem_cons.1 hx with rfl | hx
        · unfold sts; simp
        · have := h3 x hx; simpa using this
/-- Ways don't get shorter along the row; none is more than one pick longer than that of the next to be taken. -/
structure Lv (k : Nat) (l : List (Nd σ π)) : Prop where
  up : ∀ i j (hj : j < l.length) (hij : i ≤ j), (l[i]'(by omega)).2.length ≤ l[j].2.length
  near : ∀ (hk : k < l.length), ∀ m ∈ l, m.2.length ≤ l[k].2.length + 1
theorem row_lv : ∀ k, Lv k (row nx s0 k)
  | 0 => ⟨fun i j hj hij => by
      have : j = 0 := by rw [row] at hj; simp at hj; omega
      subst this
      have : i = 0 := by omega
      subst this; exact Nat.le_refl _, fun hk m hm => by rw [row, List.mem_singleton] at hm; subst hm; simp⟩
  | k + 1 => by
    obtain ⟨hu, hn⟩ := row_lv k
    cases hr : (row nx s0 k)[k]? with
    | none =>
      have e : row nx s0 (k + 1) = row nx s0 k := by rw [row, hr]
      have hlen : (row nx s0 k).length ≤ k := by simpa using hr
      rw [e]
      exact ⟨hu, fun hk => absurd hk (by omega)⟩
    | some n =>
      obtain ⟨hk, hnk⟩ := List.getElem?_eq_some_iff.1 hr
      have e : row nx s0 (k + 1) = expand nx (row nx s0 k) n := by rw [row, hr]
      obtain ⟨r, e1, e2, -⟩ := fold_new n.2 (nx n.1) (row nx s0 k)
      have e3 : row nx s0 (k + 1) = row nx s0 k ++ r := e.trans e1
      have hnear := hn hk
      rw [hnk] at hnear
      have hup : ∀ i j (hj : j < (row nx s0 (k + 1)).length) (hij : i ≤ j), ((row nx s0 (k + 1))[i]'(by omega)).2.length ≤ (row nx s0 (k + 1))[j].2.length := by
        intro i j hj hij
        have hg : ∀ q (hq : q < (row nx s0 (k + 1)).length), (∃ h : q < (row nx s0 k).length, (row nx s0 (k + 1))[q] = (row nx s0 k)[q]) ∨ ((row nx s0 k).length ≤ q ∧ (row nx s0 (k + 1))[q].2.length = n.2.length + 1) := by
          intro q hq
          rcases Nat.lt_or_ge q (row nx s0 k).length with h | h
          · left; refine ⟨h, ?_⟩
            have : (row nx s0 (k + 1))[q]? = (row nx s0 k)[q]? := by rw [e3, List.getElem?_append_left h]
            rw [List.getElem?_eq_getElem hq, List.getElem?_eq_getElem h] at this
            exact Option.some.inj this
          · right; refine ⟨h, ?_⟩
            have : (row nx s0 (k + 1))[q]? = r[q - (row nx s0 k).length]? := by rw [e3, List.getElem?_append_right h]
            rw [List.getElem?_eq_getElem hq] at this
            exact e2 _ (List.mem_of_getElem? this.symm)
        rcases hg j hj with ⟨h1, q1⟩ | ⟨h1, q1⟩
        · rcases hg i (by omega) with ⟨h2, q2⟩ | ⟨h2, q2⟩
          · rw [q1, q2]; exact hu i j h1 hij
          · omega
        · rcases hg i (by omega) with ⟨h2, q2⟩ | ⟨h2, q2⟩
          · rw [q1, q2]; exact hnear _ (List.getElem_mem _)
          · rw [q1, q2]; exact Nat.le_refl _
      refine ⟨hup, fun hk1 m hm => ?_⟩
      have hkn : n.2.length ≤ (row nx s0 (k + 1))[k + 1].2.length := by
        have h1 := hup k (k + 1) hk1 (by omega)
        have h2 : (row nx s0 (k + 1))[k]'(by omega) = n := by
          have : (row nx s0 (k + 1))[k]? = some n := row_at nx s0 hr 1
          rw [List.getElem?_eq_getElem (by omega)] at this
          exact Option.some.inj this
        rw [h2] at h1; exact h1
      rw [e3] at hm
      rcases List.mem_append.1 hm with hm | hm
      · exact Nat.le_trans (hnear m hm) (by omega)
      · rw [e2 m hm]; omega
/-- All successors of those that have been taken stand there, by ways no longer than through them. -/
theorem row_closed : ∀ k i (n : Nd σ π), i < k → (row nx s0 k)[i]? = some n → ∀ e ∈ nx n.1, ∃ w, (e.2, w) ∈ row nx s0 k ∧ w.length ≤ n.2.length + 1
  | 0, i, n, h, _ => absurd h (Nat.not_lt_zero _)
  | k + 1, i, n, h, hi => by
    intro e he
    rcases Nat.lt_or_ge i k with c | c
    · have hik : (row nx s0 k)[i]? = some n := by
        rcases hq : (row nx s0 k)[i]? with _ | m
        · have hl : (row nx s0 k).length ≤ i := by simpa using hq
          have hk : (row nx s0 k)[k]? = none := by simp; omega
          have : row nx s0 (k + 1) = row nx s0 k := by rw [row, hk]
          rw [this, hq] at hi; cases hi
        · have := row_at nx s0 hq 1
          rw [hi] at this; exact this.symm ▸ rfl
      obtain ⟨w, hw, hl⟩ := row_closed k i n c hik e he
      obtain ⟨r, hr⟩ := row_pre nx s0 k
      exact ⟨w, by rw [hr]; exact List.mem_append_left _ hw, hl⟩
    · obtain rfl : i = k := by omega
      cases hr : (row nx s0 i)[i]? with
      | none =>
        have : row nx s0 (i + 1) = row nx s0 i := by rw [row, hr]
        rw [this, hr] at hi; cases hi
      | some m =>
        have hmn : m = n := by have := row_at nx s0 hr 1; rw [hi] at this; exact (Option.some.inj this).symm
        subst hmn
        obtain ⟨hk, hnk⟩ := List.getElem?_eq_some_iff.1 hr
        have e0 : row nx s0 (i + 1) = expand nx (row nx s0 i) m := by rw [row, hr]
        obtain ⟨r, e1, e2, e3⟩ := fold_new m.2 (nx m.1) (row nx s0 i)
        have e4 : row nx s0 (i + 1) = row nx s0 i ++ r := e0.trans e1
        have hin := e3 e he
        rw [← e4] at hin
        obtain ⟨x, hx, hxe⟩ := List.mem_map.1 hin
        refine ⟨x.2, ?_, ?_⟩
        · rw [← hxe]; exact hx
        · rw [e4] at hx
          rcases List.mem_append.1 hx with hx | hx
          · have := (row_lv nx s0 i).near hk x hx; rwa [hnk] at this
          · rw [e2 x hx]; exact Nat.le_refl _
/-- All have been taken. -/
def Full (l : List (Nd σ π)) : Prop := ∃ k, l = row nx s0 k ∧ l.length ≤ k
theorem full_stay {k : Nat} (h : (row nx s0 k).length ≤ k) : ∀ d, row nx s0 (k + d) = row nx s0 k
  | 0 => rfl
  | d + 1 => by
    have ih := full_stay h d
    have : (row nx s0 (k + d))[k + d]? = none := by rw [ih]; simp; omega
    rw [← Nat.add_assoc, row, this]; exact ih
theorem full_one {a b : List (Nd σ π)} (ha : Full nx s0 a) (hb : Full nx s0 b) : a = b := by
  obtain ⟨k, rfl, hk⟩ := ha
  obtain ⟨j, rfl, hj⟩ := hb
  rcases Nat.le_total k j with c | c
  · have := full_stay nx s0 hk (j - k); rw [show k + (j - k) = j by omega] at this; exact this.symm
  · have := full_stay nx s0 hj (k - j); rw [show j + (k - j) = k by omega] at this; exact this
/-- Whatever w leads to stands there, by a way no longer. -/
theorem full_all {l : List (Nd σ π)} (h : Full nx s0 l) : ∀ {w : List π} {s : σ}, Leads nx s0 w s → ∃ v, (s, v) ∈ l ∧ v.length ≤ w.length := by
  obtain ⟨k, rfl, hk⟩ := h
  intro w s hw
  induction hw with
  | nil =>
    obtain ⟨r, hr⟩ := row_pre2 nx s0 0 k
    rw [Nat.zero_add] at hr
    exact ⟨[], by rw [hr, row]; simp, Nat.le_refl _⟩
  | snoc hw he ih =>
    obtain ⟨v, hv, hl⟩ := ih
    obtain ⟨i, hi, hx⟩ := List.mem_iff_getElem.1 hv
    have hi2 : (row nx s0 k)[i]? = some _ := List.getElem?_eq_some_iff.2 ⟨hi, hx⟩
    obtain ⟨u, hu, hul⟩ := row_closed nx s0 k i _ (by omega) hi2 _ he
    refine ⟨u, hu, ?_⟩
    rw [List.length_append, List.length_singleton]
    exact Nat.le_trans hul (Nat.succ_le_succ hl)
theorem full_leads {l : List (Nd σ π)} (h : Full nx s0 l) : ∀ m ∈ l, Leads nx s0 m.2 m.1 := by
  obtain ⟨k, rfl, _⟩ := h; exact row_leads nx s0 k
theorem full_pos {l : List (Nd σ π)} (h : Full nx s0 l) : 0 < l.length := by
  obtain ⟨k, rfl, _⟩ := h
  exact List.length_pos_iff.2 (row_ne nx s0 k)
end
/-- A row without doubles that lies in another one is no longer. -/
theorem sub_len {σ : Type} [DecidableEq σ] : ∀ {a b : List σ}, a.Nodup → (∀ x ∈ a, x ∈ b) → a.length ≤ b.length
  | [], b, _, _ => Nat.zero_le _
  | x :: a, b, h, hs => by
    obtain ⟨h1, h2⟩ := List.nodup_cons.1 h
    have hx : x ∈ b := hs x (List.mem_cons_self ..)
    have := sub_len (b := b.erase x) h2 (fun y hy => (List.mem_erase_of_ne (fun e => h1 (by rw [← e]; exact hy))).2 (hs y (List.mem_cons_of_mem _ hy)))
    rw [List.length_erase_of_mem hx] at this
    have := List.length_pos_of_mem hx
    rw [List.length_cons]; omega
section
variable {σ π : Type} [DecidableEq σ] (nx : σ → List (π × σ)) (s0 : σ)
/-- Where all that is reached lies in a row the search ends. -/
theorem full_ex {W : List σ} (h : ∀ w s, Leads nx s0 w s → s ∈ W) : ∃ l, Full nx s0 l ∧ l.length ≤ W.length := by
  have hl : ∀ k, (row nx s0 k).length ≤ W.length := fun k => by
    have := sub_len (a := sts (row nx s0 k)) (b := W) (row_nodup nx s0 k) (fun x hx => by
      obtain ⟨m, hm, rfl⟩ := List.mem_map.1 hx
      exact h _ _ (row_leads nx s0 k m hm))
    rwa [sts, List.length_map] at this
  exact ⟨row nx s0 W.length, ⟨W.length, rfl, hl _⟩, hl _⟩
/-! The search with a limit. -/
def addL (most : Nat) (w : List π) (acc : Option (List (Nd σ π))) (e : π × σ) : Option (List (Nd σ π)) :=
  acc.bind fun l => if e.2 ∈ sts l then some l else if most ≤ l.length then none else some (l ++ [(e.2, w ++ [e.1])])
theorem addL_none (most : Nat) (w : List π) : ∀ es : List (π × σ), es.foldl (addL most w) none = none
  | [] => rfl
  | e :: es => by rw [List.foldl_cons]; exact addL_none most w es
/-- With the limit: the same row, if it is not too long; else none. -/
theorem fold_lim (most : Nat) (w : List π) : ∀ (es : List (π × σ)) (l : List (Nd σ π)), l.length ≤ most → es.foldl (addL most w) (some l) = if (es.foldl (addN w) l).length ≤ most then some (es.foldl (addN w) l) else none
  | [], l, h => by simp [h]
  | e :: es, l, h => by
    rw [List.foldl_cons, List.foldl_cons]
    show es.foldl (addL most w) (if e.2 ∈ sts l then some l else if most ≤ l.length then none else some (l ++ [(e.2, w ++ [e.1])])) = _
    by_cases c : e.2 ∈ sts l
    · have ea : addN w l e = l := by unfold addN; rw [if_pos c]
      rw [if_pos c, ea]; exact fold_lim most w es l h
    · have ea : addN w l e = l ++ [(e.2, w ++ [e.1])] := by unfold addN; rw [if_neg c]
      rw [if_neg c, ea]
      by_cases d : most ≤ l.length
      · rw [if_pos d, addL_none]
        obtain ⟨r, hr⟩ := fold_pre w es (l ++ [(e.2, w ++ [e.1])])
        rw [hr, if_neg]; simp; omega
      · rw [if_neg d]
        exact fold_lim most w es _ (by simp; omega)
/-- The row with the limit, when k states have been taken. -/
def lim (most : Nat) : Nat → Option (List (Nd σ π))
  | 0 => if 1 ≤ most then some [(s0, [])] else none
  | k + 1 => (lim most k).bind fun l => match l[k]? with
    | some n => (nx n.1).foldl (addL most n.2) (some l)
    | none => some l
theorem lim_row (most : Nat) : ∀ k, lim nx s0 most k = if (row nx s0 k).length ≤ most then some (row nx s0 k) else none
  | 0 => by rw [lim, row]; rfl
  | k + 1 => by
    rw [lim, lim_row most k]
    by_cases c : (row nx s0 k).length ≤ most
    · rw [if_pos c]
      show (match (row nx s0 k)[k]? with | some n => _ | none => _) = _
      cases hr : (row nx s0 k)[k]? with
      | none => have : row nx s0 (k + 1) = row nx s0 k := by rw [row, hr]
                rw [this, if_pos c]
      | some n =>
        have : row nx s0 (k + 1) = expand nx (row nx s0 k) n := by rw [row, hr]
        rw [this]; exact fold_lim most n.2 (nx n.1) _ c
    · rw [if_neg c]
      obtain ⟨r, hr⟩ := row_pre nx s0 k
      rw [if_neg (by rw [hr]; simp; omega)]; rfl
/-- It succeeds just if all that is reached are no more than the limit: with the full row. -/
theorem lim_full {most k : Nat} {l : List (Nd σ π)} (hk : most ≤ k) : lim nx s0 most k = some l ↔ Full nx s0 l ∧ l.length ≤ most := by
  rw [lim_row]
  constructor
  · intro h
    split at h
    · rename_i c
      have e := Option.some.inj h
      subst e
      exact ⟨⟨k, rfl, by omega⟩, c⟩
    · cases h
  · rintro ⟨⟨j, rfl, hj⟩, hl⟩
    have e : row nx s0 k = row nx s0 j := by
      rcases Nat.le_total j k with c | c
      · have := full_stay nx s0 hj (k - j); rwa [show j + (k - j) = k by omega] at this
      · obtain ⟨r, hr⟩ := row_pre2 nx s0 k (j - k)
        rw [show k + (j - k) = j by omega] at hr
        have h1 : (row nx s0 k).length ≤ k := by
          have := congrArg List.length hr
          rw [List.length_append] at this; omega
        have := full_stay nx s0 h1 (j - k); rw [show k + (j - k) = j by omega] at this; exact this.symm
    rw [e, if_pos hl]
theorem lim_none {most k : Nat} (hk : most ≤ k) : lim nx s0 most k = none ↔ ¬ ∃ l, Full nx s0 l ∧ l.length ≤ most := by
  constructor
  · rintro h ⟨l, hl⟩
    rw [(lim_full nx s0 hk).2 hl] at h; cases h
  · intro h
    cases e : lim nx s0 most k with
    | none => rfl
    | some l => exact absurd ⟨l, (lim_full nx s0 hk).1 e⟩ h
end
end ExM
end Go.Proofs.Ytbffjhdocicfoaa
namespace Go.Proofs.Ytbffjhdocicfoaa
set_option linter.unusedVariables false
set_option linter.unusedSimpArgs false
namespace OtM

abbrev Ot := List Int × List Int
/-- How a row of numbers is held against another one. -/
def cmpI : List Int → List Int → Int
  | [], [] => 0
  | [], _ :: _ => -1
  | _ :: _, [] => 1
  | x :: xs, y :: ys => if x = y then cmpI xs ys else if x < y then -1 else 1
theorem cmpI_range : ∀ a b, cmpI a b = -1 ∨ cmpI a b = 0 ∨ cmpI a b = 1
  | [], [] => by simp [cmpI]
  | [], _ :: _ => by simp [cmpI]
  | _ :: _, [] => by simp [cmpI]
  | x :: xs, y :: ys => by
    unfold cmpI; split
    · exact cmpI_range xs ys
    · split <;> simp
theorem cmpI_zero : ∀ a b, cmpI a b = 0 ↔ a = b
  | [], [] => by simp [cmpI]
  | [], _ :: _ => by simp [cmpI]
  | _ :: _, [] => by simp [cmpI]
  | x :: xs, y :: ys => by
    unfold cmpI; split
    · rename_i h; subst h; rw [cmpI_zero xs ys]; simp
    · rename_i h; split <;> simp [h]
theorem cmpI_neg : ∀ a b, cmpI b a = - cmpI a b
  | [], [] => by simp [cmpI]
  | [], _ :: _ => by simp [cmpI]
  | _ :: _, [] => by simp [cmpI]
  | x :: xs, y :: ys => by
    unfold cmpI
    by_cases h : x = y
    · subst h; rw [if_pos rfl, if_pos rfl]; exact cmpI_neg xs ys
    · rw [if_neg h, if_neg (Ne.symm h)]
      by_cases g : x < y
      · rw [if_pos g, if_neg (by omega)]; rfl
      · rw [if_neg g, if_pos (by omega)]
theorem cmpI_trans : ∀ a b c, cmpI a b < 0 → cmpI b c < 0 → cmpI a c < 0
  | [], b, [], h1, h2 => by have := cmpI_neg b []; omega
  | [], _, _ :: _, _, _ => by simp [cmpI]
  | _ :: _, [], _, h, _ => by simp [cmpI] at h
  | _ :: _, _ :: _, [], _, h => by simp [cmpI] at h
  | x :: xs, y :: ys, z :: zs, h1, h2 => by
    unfold cmpI at h1 h2 ⊢
    by_cases e1 : x = y
    · subst e1
      rw [if_pos rfl] at h1
      by_cases e2 : x = z
      · rw [if_pos e2] at h2 ⊢; exact cmpI_trans xs ys zs h1 h2
      · rw [if_neg e2] at h2 ⊢; exact h2
    · rw [if_neg e1] at h1
      by_cases g1 : x < y
      · by_cases e2 : y = z
        · subst e2; rw [if_neg e1, if_pos g1]; decide
        · rw [if_neg e2] at h2
          by_cases g2 : y < z
          · rw [if_neg (by omega), if_pos (by omega)]; decide
          · rw [if_neg g2] at h2; omega
      · rw [if_neg g1] at h1; omega
theorem cmpI_same (x : Int) (a b : List Int) : cmpI (x :: a) (x :: b) = cmpI a b := by rw [cmpI, if_pos rfl]
/-- The first k are alike: the rest decides. -/
theorem cmpI_step {a b : List Int} {k : Nat} (h1 : k < a.length) (h2 : k < b.length) (e : a[k] = b[k]) : cmpI (a.drop k) (b.drop k) = cmpI (a.drop (k + 1)) (b.drop (k + 1)) := by
  rw [List.drop_eq_getElem_cons h1, List.drop_eq_getElem_cons h2, e, cmpI_same]
theorem cmpI_apart {a b : List Int} {k : Nat} (h1 : k < a.length) (h2 : k < b.length) (e : ¬ a[k] = b[k]) : cmpI (a.drop k) (b.drop k) = if a[k] < b[k] then -1 else 1 := by
  rw [List.drop_eq_getElem_cons h1, List.drop_eq_getElem_cons h2, cmpI, if_neg e]
theorem cmpI_long {a b : List Int} {k : Nat} (h1 : k < a.length) (h2 : b.length ≤ k) : cmpI (a.drop k) (b.drop k) = 1 := by
  rw [List.drop_eq_getElem_cons h1, List.drop_of_length_le h2, cmpI]
theorem cmpI_short {a b : List Int} {k : Nat} (h1 : a.length ≤ k) (h2 : k < b.length) : cmpI (a.drop k) (b.drop k) = -1 := by
  rw [List.drop_eq_getElem_cons h2, List.drop_of_length_le h1, cmpI]
theorem cmpI_end {a b : List Int} {k : Nat} (h1 : a.length ≤ k) (h2 : b.length ≤ k) : cmpI (a.drop k) (b.drop k) = 0 := by
  rw [List.drop_of_length_le h2, List.drop_of_length_le h1, cmpI]
/-- How an end is held against another one. -/
def cmpO (a b : Ot) : Int := if cmpI a.1 b.1 = 0 then cmpI a.2 b.2 else cmpI a.1 b.1
theorem cmpO_range (a b : Ot) : cmpO a b = -1 ∨ cmpO a b = 0 ∨ cmpO a b = 1 := by
  unfold cmpO; split
  · exact cmpI_range _ _
  · exact cmpI_range _ _
theorem cmpO_zero (a b : Ot) : cmpO a b = 0 ↔ a = b := by
  unfold cmpO; split
  · rename_i h; rw [cmpI_zero] at h ⊢
    constructor
    · intro g; exact Prod.ext h g
    · intro g; rw [g]
  · rename_i h
    constructor
    · intro g; exact absurd g h
    · intro g; subst g; exact absurd ((cmpI_zero _ _).2 rfl) h
theorem cmpO_neg (a b : Ot) : cmpO b a = - cmpO a b := by
  unfold cmpO
  rw [cmpI_neg a.1 b.1, cmpI_neg a.2 b.2]
  by_cases h : cmpI a.1 b.1 = 0
  · rw [if_pos h, if_pos (by omega)]
  · rw [if_neg h, if_neg (by omega)]
def Lt (a b : Ot) : Prop := cmpO a b < 0
instance (a b : Ot) : Decidable (Lt a b) := inferInstanceAs (Decidable (cmpO a b < 0))
theorem Lt.trans {a b c : Ot} (h1 : Lt a b) (h2 : Lt b c) : Lt a c := by
  unfold Lt cmpO at *
  by_cases e1 : cmpI a.1 b.1 = 0
  · rw [if_pos e1] at h1
    rw [cmpI_zero] at e1
    rw [e1]
    by_cases e2 : cmpI b.1 c.1 = 0
    · rw [if_pos e2] at h2 ⊢; exact cmpI_trans _ _ _ h1 h2
    · rw [if_neg e2] at h2 ⊢; exact h2
  · rw [if_neg e1] at h1
    by_cases e2 : cmpI b.1 c.1 = 0
    · rw [cmpI_zero] at e2
      rw [← e2, if_neg e1]; exact h1
    · rw [if_neg e2] at h2
      have := cmpI_trans _ _ _ h1 h2
      rw [if_neg (by omega)]; exact this
theorem Lt.irrefl (a : Ot) : ¬ Lt a a := by unfold Lt; rw [(cmpO_zero a a).2 rfl]; decide
theorem Lt.asymm {a b : Ot} (h : Lt a b) : ¬ Lt b a := fun g => Lt.irrefl a (h.trans g)
theorem Lt.ne {a b : Ot} (h : Lt a b) : a ≠ b := fun e => by subst e; exact Lt.irrefl _ h
theorem tri (a b : Ot) : Lt a b ∨ a = b ∨ Lt b a := by
  unfold Lt
  rw [cmpO_neg a b, ← cmpO_zero]
  rcases cmpO_range a b with h | h | h <;> rw [h] <;> decide
theorem lt_of_nlt {a b : Ot} (h : ¬ Lt a b) (hn : a ≠ b) : Lt b a := by
  rcases tri a b with k | k | k
  · exact absurd k h
  · exact absurd k hn
  · exact k
/-- How many of them are ahead of o. -/
def pos (l : List Ot) (o : Ot) : Nat := l.countP fun x => decide (Lt x o)
/-! The document's own way of putting: along the row, ahead of the first one that o is ahead of. -/
end OtM
end Go.Proofs.Ytbffjhdocicfoaa
namespace Go.Proofs.Ytbffjhdocicfoaa
set_option linter.unusedVariables false
set_option linter.unusedSimpArgs false
namespace ExN
open ExM
section
variable {π : Type} (lt : π → π → Prop)
/-- At the first place where they are unlike the one is less. -/
def lx : List π → List π → Prop
  | a :: xs, b :: ys => lt a b ∨ (a = b ∧ lx xs ys)
  | _, _ => False
def Ah (a b : List π) : Prop := a.length < b.length ∨ (a.length = b.length ∧ lx lt a b)
theorem lx_app {lt : π → π → Prop} : ∀ {a b : List π} (x y : List π), lx lt a b → lx lt (a ++ x) (b ++ y)
  | [], _, _, _, h => absurd h (by unfold lx; exact id)
  | _ :: _, [], _, _, h => absurd h (by unfold lx; exact id)
  | a :: xs, b :: ys, x, y, h => by
    rw [List.cons_append, List.cons_append]
    unfold lx at h ⊢
    rcases h with h | ⟨h, g⟩
    · exact .inl h
    · exact .inr ⟨h, lx_app x y g⟩
theorem lx_snoc {lt : π → π → Prop} {p q : π} (h : lt p q) : ∀ a : List π, lx lt (a ++ [p]) (a ++ [q])
  | [] => .inl h
  | a :: xs => .inr ⟨rfl, lx_snoc h xs⟩
theorem Ah.le {lt : π → π → Prop} {a b : List π} (h : Ah lt a b) : a.length ≤ b.length := by
  rcases h with h | ⟨h, -⟩ <;> omega
theorem Ah.app {lt : π → π → Prop} {a b : List π} (h : Ah lt a b) (p q : π) : Ah lt (a ++ [p]) (b ++ [q]) := by
  rcases h with h | ⟨h, g⟩
  · exact .inl (by simp; omega)
  · exact .inr ⟨by simp; omega, lx_app _ _ g⟩
theorem Ah.snoc {lt : π → π → Prop} {p q : π} (h : lt p q) (a : List π) : Ah lt (a ++ [p]) (a ++ [q]) := .inr ⟨by simp, lx_snoc h a⟩
end
section
variable {σ π : Type} [DecidableEq σ] (nx : σ → List (π × σ)) (s0 : σ) (lt : π → π → Prop)
theorem fold_ris (w : List π) : ∀ (es : List (π × σ)) (l : List (Nd σ π)), es.Pairwise (fun x y => lt x.1 y.1) → ∃ r, es.foldl (addN w) l = l ++ r ∧ r.Pairwise (fun x y => Ah lt x.2 y.2) ∧ ∀ m ∈ r, ∃ e ∈ es, m = (e.2, w ++ [e.1])
  | [], l, _ => ⟨[], by simp, .nil, by simp⟩
  | e :: es, l, h => by
    obtain ⟨ha, hb⟩ := List.pairwise_cons.1 h
    rw [List.foldl_cons]
    obtain ⟨r, h1, h2, h3⟩ := fold_ris w es (addN w l e) hb
    by_cases c : e.2 ∈ sts l
    · have ea : addN w l e = l := by unfold addN; rw [if_pos c]
      rw [ea] at h1 ⊢
      exact ⟨r, h1, h2, fun m hm => by obtain ⟨x, hx, hm⟩ := h3 m hm; exact ⟨x, List.mem_cons_of_mem _ hx, hm⟩⟩
    · have ea : addN w l e = l ++ [(e.2, w ++ [e.1])] := by unfold addN; rw [if_neg c]
      rw [ea] at h1 ⊢
      refine ⟨(e.2, w ++ [e.1]) :: r, by rw [h1]; simp, List.pairwise_cons.2 ⟨fun m hm => ?_, h2⟩, fun m hm => ?_⟩
      · obtain ⟨x, hx, rfl⟩ := h3 m hm
        exact Ah.snoc (ha x hx) w
      · rcases List.mem_cons.1 hm with rfl | hm
        · exact ⟨e, List.mem_cons_self .., rfl⟩
        · obtain ⟨x, hx, hm⟩ := h3 m hm; exact ⟨x, List.mem_cons_of_mem _ hx, hm⟩
/-- Whence each one comes. -/
theorem row_from : ∀ k, ∀ m ∈ row nx s0 k, m.2 = [] ∨ ∃ i n p, i < k ∧ (row nx s0 k)[i]? = some n ∧ m.2 = n.2 ++ [p]
  | 0 => fun m hm => by rw [row, List.mem_singleton] at hm; subst hm; exact .inl rfl
  | k + 1 => fun m hm => by
    have old : ∀ m ∈ row nx s0 k, m.2 = [] ∨ ∃ i n p, i < k + 1 ∧ (row nx s0 (k + 1))[i]? = some n ∧ m.2 = n.2 ++ [p] := fun m hm => by
      rcases row_from k m hm with h | ⟨i, n, p, h1, h2, h3⟩
      · exact .inl h
      · exact .inr ⟨i, n, p, by omega, row_at nx s0 h2 1, h3⟩
    cases hr : (row nx s0 k)[k]? with
    | none =>
      have e : row nx s0 (k + 1) = row nx s0 k := by rw [row, hr]
      exact old m (e ▸ hm)
    | some n =>
      have e : row nx s0 (k + 1) = expand nx (row nx s0 k) n := by rw [row, hr]
      obtain ⟨r, h1, h2, -⟩ := fold_new n.2 (nx n.1) (row nx s0 k)
      have h3 := hm
      rw [e, expand, h1] at h3
      rcases List.mem_append.1 h3 with h3 | h3
      · exact old m h3
      · have key : ∀ (es : List (π × σ)) (l : List (Nd σ π)), ∀ m ∈ es.foldl (addN n.2) l, m ∈ l ∨ ∃ p, m.2 = n.2 ++ [p] := by
          intro es
          induction es with
          | nil => intro l m hm; exact .inl hm
          | cons x es ih =>
            intro l m hm
            rw [List.foldl_cons] at hm
            rcases ih _ m hm with h | h
            · unfold addN at h; split at h
              · exact .inl h
              · rcases List.mem_append.1 h with h | h
                · exact .inl h
                · rw [List.mem_singleton.1 h]; exact .inr ⟨_, rfl⟩
            · exact .inr h
        have hm2 := hm
        rw [e] at hm2
        rcases key _ _ m hm2 with h | ⟨p, h⟩
        · exact old m h
        · exact .inr ⟨k, n, p, by omega, row_at nx s0 hr 1, h⟩
variable {nx s0 lt}
/-- The ways rise along the row. -/
theorem row_rise (hnx : ∀ s, (nx s).Pairwise (fun x y => lt x.1 y.1)) : ∀ k, (row nx s0 k).Pairwise (fun x y => Ah lt x.2 y.2)
  | 0 => by rw [row]; exact List.pairwise_singleton _ _
  | k + 1 => by
    have ih := row_rise hnx k
    cases hr : (row nx s0 k)[k]? with
    | none =>
      have e : row nx s0 (k + 1) = row nx s0 k := by rw [row, hr]
      rw [e]; exact ih
    | some n =>
      have e : row nx s0 (k + 1) = expand nx (row nx s0 k) n := by rw [row, hr]
      obtain ⟨hk, hnk⟩ := List.getElem?_eq_some_iff.1 hr
      obtain ⟨r, h1, h2, h3⟩ := fold_ris lt n.2 (nx n.1) (row nx s0 k) (hnx n.1)
      rw [e, expand, h1, List.pairwise_append]
      refine ⟨ih, h2, fun m hm x hx => ?_⟩
      obtain ⟨y, hy, rfl⟩ := h3 x hx
      have hnear := (row_lv nx s0 k).near hk m hm
      rw [hnk] at hnear
      show Ah lt m.2 (n.2 ++ [y.1])
      rcases Nat.lt_or_ge m.2.length (n.2.length + 1) with c | c
      · exact .inl (by simpa using c)
      · rcases row_from nx s0 k m hm with h | ⟨i, q, p, hi, hq, h⟩
        · rw [h] at c; simp at c
        · obtain ⟨hil, hiq⟩ := List.getElem?_eq_some_iff.1 hq
          have := List.pairwise_iff_getElem.1 ih i k hil hk hi
          rw [hiq, hnk] at this
          rw [h]; exact this.app p y.1
theorem full_rise (hnx : ∀ s, (nx s).Pairwise (fun x y => lt x.1 y.1)) {l : List (Nd σ π)} (h : Full nx s0 l) : l.Pairwise (fun x y => Ah lt x.2 y.2) := by
  obtain ⟨k, rfl, _⟩ := h; exact row_rise hnx k
end
/-! The ends that are found. -/
section
open OtM
variable {π : Type}
/-- One more, among ends in order: of those alike the first stays. -/
def putF : List (Ot × List π) → Ot × List π → List (Ot × List π)
  | [], f => [f]
  | x :: l, f => if Lt f.1 x.1 then f :: x :: l else if x.1 = f.1 then x :: l else x :: putF l f
abbrev SrtF (l : List (Ot × List π)) : Prop := l.Pairwise fun x y => Lt x.1 y.1
theorem putF_sub : ∀ (l : List (Ot × List π)) (f y : Ot × List π), y ∈ putF l f → y ∈ l ∨ y = f
  | [], f, y, h => .inr (List.mem_singleton.1 h)
  | x :: l, f, y, h => by
    unfold putF at h
    split at h
    · rcases List.mem_cons.1 h with h | h
      · exact .inr h
      · exact .inl h
    · split at h
      · exact .inl h
      · rcases List.mem_cons.1 h with h | h
        · exact .inl (h ▸ List.mem_cons_self ..)
        · rcases putF_sub l f y h with h | h
          · exact .inl (List.mem_cons_of_mem _ h)
          · exact .inr h
theorem putF_keep : ∀ (l : List (Ot × List π)) (f y : Ot × List π), y ∈ l → y ∈ putF l f
  | x :: l, f, y, h => by
    unfold putF
    split
    · exact List.mem_cons_of_mem _ h
    · split
      · exact h
      · rcases List.mem_cons.1 h with h | h
        · rw [h]; exact List.mem_cons_self ..
        · exact List.mem_cons_of_mem _ (putF_keep l f y h)
theorem putF_srt : ∀ (l : List (Ot × List π)) (f : Ot × List π), SrtF l → SrtF (putF l f)
  | [], f, _ => List.pairwise_singleton _ _
  | x :: l, f, h => by
    obtain ⟨h1, h2⟩ := List.pairwise_cons.1 h
    unfold putF
    split
    · rename_i c
      refine List.pairwise_cons.2 ⟨fun y hy => ?_, h⟩
      rcases List.mem_cons.1 hy with hy | hy
      · rw [hy]; exact c
      · exact c.trans (h1 y hy)
    · rename_i c
      split
      · exact h
      · rename_i d
        refine List.pairwise_cons.2 ⟨fun y hy => ?_, putF_srt l f h2⟩
        rcases putF_sub l f y hy with hy | hy
        · exact h1 y hy
        · rw [hy]; exact lt_of_nlt c (Ne.symm d)
/-- What is put is there, or one alike stood there. -/
theorem putF_new : ∀ (l : List (Ot × List π)) (f : Ot × List π), SrtF l → (f ∈ putF l f ↔ f ∈ l ∨ ∀ x ∈ l, x.1 ≠ f.1)
  | [], f, _ => by simp [putF]
  | x :: l, f, h => by
    obtain ⟨h1, h2⟩ := List.pairwise_cons.1 h
    unfold putF
    split
    · rename_i c
      refine ⟨fun _ => .inr fun y hy => ?_, fun _ => List.mem_cons_self ..⟩
      rcases List.mem_cons.1 hy with hy | hy
      · rw [hy]; exact c.ne.symm
      · exact (c.trans (h1 y hy)).ne.symm
    · rename_i c
      split
      · rename_i d
        exact ⟨.inl, fun g => g.elim id fun g => absurd d (g x (List.mem_cons_self ..))⟩
      · rename_i d
        rw [List.mem_cons, putF_new l f h2, List.mem_cons]
        constructor
        · rintro (g | g | g)
          · exact .inl (.inl g)
          · exact .inl (.inr g)
          · right; intro y hy
            rcases List.mem_cons.1 hy with hy | hy
            · rw [hy]; exact d
            · exact g y hy
        · rintro ((g | g) | g)
          · exact .inl g
          · exact .inr (.inl g)
          · exact .inr (.inr fun y hy => g y (List.mem_cons_of_mem _ hy))
/-- What is found of a row of ends with their ways. -/
def fnd (l : List (Ot × List π)) : List (Ot × List π) := l.foldl putF []
theorem fnd_snoc (l : List (Ot × List π)) (f : Ot × List π) : fnd (l ++ [f]) = putF (fnd l) f := by unfold fnd; rw [List.foldl_append]; rfl
end
end ExN
end Go.Proofs.Ytbffjhdocicfoaa
namespace Go.Proofs.Ytbffjhdocicfoaa
set_option linter.unusedVariables false
set_option linter.unusedSimpArgs false
namespace ExO
open ExM ExN OtM
section
variable {π : Type}
/-- It stands there, and none ahead of it has its end. -/
def First (P : List (Ot × List π)) (f : Ot × List π) : Prop := ∃ P1 P2, P = P1 ++ f :: P2 ∧ ∀ x ∈ P1, x.1 ≠ f.1
theorem First.mem {P : List (Ot × List π)} {f : Ot × List π} (h : First P f) : f ∈ P := by
  obtain ⟨P1, P2, rfl, -⟩ := h; simp
theorem first_snoc (P : List (Ot × List π)) (g f : Ot × List π) : First (P ++ [g]) f ↔ First P f ∨ (f = g ∧ ∀ x ∈ P, x.1 ≠ f.1) := by
  constructor
  · rintro ⟨P1, P2, h, hn⟩
    rcases List.eq_nil_or_concat P2 with rfl | ⟨Q, q, rfl⟩
    · obtain ⟨h1, h2⟩ := List.append_inj' h rfl
      subst h1
      have := List.singleton_inj.1 h2
      exact .inr ⟨this.symm, hn⟩
    · rw [List.concat_eq_append, ← List.cons_append, ← List.append_assoc] at h
      obtain ⟨h1, h2⟩ := List.append_inj' h rfl
      exact .inl ⟨P1, Q, h1, hn⟩
  · rintro (⟨P1, P2, h, hn⟩ | ⟨rfl, hn⟩)
    · exact ⟨P1, P2 ++ [g], by rw [h]; simp, hn⟩
    · exact ⟨P, [], rfl, hn⟩
structure FndOk (P : List (Ot × List π)) : Prop where
  srt : SrtF (fnd P)
  mem : ∀ f, f ∈ fnd P ↔ First P f
  all : ∀ x ∈ P, ∃ y ∈ fnd P, y.1 = x.1
theorem fndOk_snoc {P : List (Ot × List π)} (h : FndOk P) (g : Ot × List π) : FndOk (P ++ [g]) := by
  have hq : (∀ x ∈ fnd P, x.1 ≠ g.1) ↔ ∀ x ∈ P, x.1 ≠ g.1 := by
    constructor
    · intro k x hx e
      obtain ⟨y, hy, ey⟩ := h.all x hx
      exact k y hy (ey.trans e)
    · intro k x hx
      exact k x ((h.mem x).1 hx).mem
  refine ⟨?_, fun f => ?_, fun x hx => ?_⟩
  · rw [fnd_snoc]; exact putF_srt _ _ h.srt
  · rw [fnd_snoc, first_snoc, ← h.mem]
    constructor
    · intro k
      rcases putF_sub _ _ _ k with k1 | k1
      · exact .inl k1
      · subst k1
        rcases (putF_new _ _ h.srt).1 k with k2 | k2
        · exact .inl k2
        · exact .inr ⟨rfl, hq.1 k2⟩
    · rintro (k | ⟨rfl, k⟩)
      · exact putF_keep _ _ _ k
      · exact (putF_new _ _ h.srt).2 (.inr (hq.2 k))
  · rw [fnd_snoc]
    rcases List.mem_append.1 hx with hx | hx
    · obtain ⟨y, hy, e⟩ := h.all x hx
      exact ⟨y, putF_keep _ _ _ hy, e⟩
    · rw [List.mem_singleton.1 hx]
      by_cases c : ∃ y ∈ fnd P, y.1 = g.1
      · obtain ⟨y, hy, e⟩ := c
        exact ⟨y, putF_keep _ _ _ hy, e⟩
      · exact ⟨g, (putF_new _ _ h.srt).2 (.inr fun y hy e => c ⟨y, hy, e⟩), rfl⟩
theorem fndOk_app {P : List (Ot × List π)} (h : FndOk P) : ∀ L : List (Ot × List π), FndOk (P ++ L)
  | [] => by rw [List.append_nil]; exact h
  | g :: L => by
    have := fndOk_app (fndOk_snoc h g) L
    rwa [List.append_assoc] at this
theorem fnd_ok (P : List (Ot × List π)) : FndOk P := by
  have h : FndOk ([] : List (Ot × List π)) := by
    refine ⟨by unfold fnd; exact .nil, fun f => ?_, by simp⟩
    constructor
    · intro h; unfold fnd at h; exact absurd h (by simp)
    · intro h; exact absurd h.mem (by simp)
  exact fndOk_app h P
/-- Two sets of ends found with alike members are alike. -/
theorem srtF_ext : ∀ {a b : List (Ot × List π)}, SrtF a → SrtF b → (∀ f, f ∈ a ↔ f ∈ b) → a = b
  | [], [], _, _, _ => rfl
  | [], y :: b, _, _, h => absurd ((h y).2 (List.mem_cons_self ..)) (by simp)
  | x :: a, [], _, _, h => absurd ((h x).1 (List.mem_cons_self ..)) (by simp)
  | x :: a, y :: b, ha, hb, h => by
    obtain ⟨a1, a2⟩ := List.pairwise_cons.1 ha
    obtain ⟨b1, b2⟩ := List.pairwise_cons.1 hb
    have e : x = y := by
      rcases List.mem_cons.1 ((h x).1 (List.mem_cons_self ..)) with e | e
      · exact e
      · rcases List.mem_cons.1 ((h y).2 (List.mem_cons_self ..)) with g | g
        · exact g.symm
        · exact absurd (b1 x e) (a1 y g).asymm
    subst e
    rw [srtF_ext a2 b2 fun f => ⟨fun hf => ?_, fun hf => ?_⟩]
    · rcases List.mem_cons.1 ((h f).1 (List.mem_cons_of_mem _ hf)) with e | e
      · subst e; exact absurd (a1 f hf) (Lt.irrefl _)
      · exact e
    · rcases List.mem_cons.1 ((h f).2 (List.mem_cons_of_mem _ hf)) with e | e
      · subst e; exact absurd (b1 f hf) (Lt.irrefl _)
      · exact e
/-! The document's way: a loop with a mark. -/
end
section
variable {σ π : Type} {lt : π → π → Prop} (ov : σ → Bool) (en : σ → Ot)
/-- The ends of a row, each with its way. -/
def endsOf (l : List (Nd σ π)) : List (Ot × List π) := (l.filter fun m => ov m.1).map fun m => (en m.1, m.2)
theorem mem_ends (l : List (Nd σ π)) (f : Ot × List π) : f ∈ endsOf ov en l ↔ ∃ s, (s, f.2) ∈ l ∧ ov s = true ∧ en s = f.1 := by
  unfold endsOf
  rw [List.mem_map]
  constructor
  · rintro ⟨m, hm, rfl⟩
    obtain ⟨h1, h2⟩ := List.mem_filter.1 hm
    exact ⟨m.1, h1, h2, rfl⟩
  · rintro ⟨s, h1, h2, h3⟩
    exact ⟨(s, f.2), List.mem_filter.2 ⟨h1, h2⟩, by rw [h3]⟩
theorem ends_rise {l : List (Nd σ π)} (h : l.Pairwise (fun x y => Ah lt x.2 y.2)) : (endsOf ov en l).Pairwise (fun x y => Ah lt x.2 y.2) := by
  unfold endsOf
  rw [List.pairwise_map]
  exact List.Pairwise.filter _ h
end
section
variable {σ π : Type} [DecidableEq σ] {nx : σ → List (π × σ)} {s0 : σ} {lt : π → π → Prop} (ov : σ → Bool) (en : σ → Ot)
/-- Each end that is found is that of its picks. -/
theorem found_is {l : List (Nd σ π)} (h : Full nx s0 l) {f : Ot × List π} (hf : f ∈ fnd (endsOf ov en l)) : ∃ s, Leads nx s0 f.2 s ∧ ov s = true ∧ en s = f.1 := by
  obtain ⟨s, h1, h2, h3⟩ := (mem_ends ov en l f).1 (((fnd_ok _).mem f).1 hf).mem
  exact ⟨s, full_leads nx s0 h _ h1, h2, h3⟩
/-- Whatever leads to an end: it is found, by no more picks. -/
theorem found_all (hnx : ∀ s, (nx s).Pairwise (fun x y => lt x.1 y.1)) {l : List (Nd σ π)} (h : Full nx s0 l) {w : List π} {s : σ} (hw : Leads nx s0 w s) (ho : ov s = true) : ∃ f ∈ fnd (endsOf ov en l), f.1 = en s ∧ f.2.length ≤ w.length := by
  obtain ⟨v, hv, hl⟩ := full_all nx s0 h hw
  have hm : (en s, v) ∈ endsOf ov en l := (mem_ends ov en l _).2 ⟨s, hv, ho, rfl⟩
  obtain ⟨f, hf, e⟩ := (fnd_ok (endsOf ov en l)).all _ hm
  refine ⟨f, hf, e, Nat.le_trans ?_ hl⟩
  obtain ⟨P1, P2, hP, hn⟩ := ((fnd_ok _).mem f).1 hf
  have hr := ends_rise ov en (full_rise hnx h)
  rw [hP] at hm hr
  rcases List.mem_append.1 hm with k | k
  · exact absurd e.symm (hn _ k)
  · rcases List.mem_cons.1 k with k | k
    · rw [← k]; exact Nat.le_refl _
    · exact ((List.pairwise_cons.1 (List.pairwise_append.1 hr).2.1).1 _ k).le
end
end ExO
end Go.Proofs.Ytbffjhdocicfoaa
namespace Go.Proofs.Ytbffjhdocicfoaa
open Go.RowKit
set_option linter.unusedVariables false
/-- What a box had when it was made it has behind calls that make memory alone. -/
theorem kept_box {w w1 : World} {cs : Array Value} {T : TypeId} (hB : Below (w.alloc (.cells cs T)).heap.size (w.alloc (.cells cs T)) w1) (i : Nat) {v : Value} (h : cs[i]? = some v) :
    w1.cell? ⟨w.heap.size, i, none⟩ = some v ∧ w1.frozen? ⟨w.heap.size, i, none⟩ = false := by
  refine ⟨(hB.cell (p := ⟨w.heap.size, i, none⟩) (by simp)).trans ?_, (hB.frozen (p := ⟨w.heap.size, i, none⟩) (by simp)).trans ?_⟩
  · rw [World.cell?_alloc_at _ _ _ _ rfl]; exact h
  · rw [World.frozen?_alloc_at _ _ _ _ rfl]
theorem lt_of_cell {W : World} {g i : Nat} {v : Value} (h : W.cell? ⟨g, i, none⟩ = some v) : g < W.heap.size := by
  rcases Nat.lt_or_ge g W.heap.size with k | k
  · exact k
  · simp [World.cell?, Array.getElem?_eq_none k] at h
end Go.Proofs.Ytbffjhdocicfoaa
