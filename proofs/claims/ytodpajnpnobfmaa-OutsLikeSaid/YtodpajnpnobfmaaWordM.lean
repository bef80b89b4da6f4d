/-
  PLAIN MATHEMATICS OF TEXTS: what lines and words are, over lists of bytes. It imports nothing of the program.
-/
import Derived.Lib.Strings
import Derived.Lib.Bytealg
set_option linter.unusedVariables false
set_option linter.unusedSimpArgs false
namespace Go.Proofs.Ytodpajnpnobfmaa.WordM
abbrev L := List UInt8

def consHd (b : UInt8) : List L → List L
  | [] => [[b]]
  | h :: t => (b :: h) :: t
/-- What stands between the bytes c, the last one too. -/
def split (c : UInt8) : L → List L
  | [] => [[]]
  | b :: l => if b = c then [] :: split c l else consHd b (split c l)
/-- The same, but for a last one that is empty. -/
def chunks (c : UInt8) : L → List L
  | [] => []
  | b :: l => if b = c then [] :: chunks c l else consHd b (chunks c l)
def full (l : L) : Bool := !l.isEmpty
def lines (s : L) : List L := chunks 10 s
def words (s : L) : List L := (chunks 32 s).filter full

theorem consHd_ne (b : UInt8) (r : List L) : consHd b r ≠ [] := by cases r <;> simp [consHd]
theorem consHd_app (b : UInt8) (r q : List L) (h : r ≠ []) : consHd b (r ++ q) = consHd b r ++ q := by
  cases r with
  | nil => exact absurd rfl h
  | cons x r => rfl
theorem chunks_ne (c : UInt8) (l : L) (h : l ≠ []) : chunks c l ≠ [] := by
  cases l with
  | nil => exact absurd rfl h
  | cons b l =>
    unfold chunks; split
    · simp
    · exact consHd_ne _ _
theorem split_ne (c : UInt8) (l : L) : split c l ≠ [] := by
  cases l with
  | nil => simp [split]
  | cons b l =>
    unfold split; split
    · simp
    · exact consHd_ne _ _
theorem split_app (c : UInt8) : ∀ (a l : L), c ∉ a → split c (a ++ c :: l) = a :: split c l
  | [], l, _ => by simp [split]
  | b :: a, l, h => by
    rw [List.mem_cons, not_or] at h
    rw [List.cons_append, split, if_neg (fun e => h.1 e.symm), split_app c a l h.2]; rfl
theorem split_none (c : UInt8) : ∀ (a : L), c ∉ a → split c a = [a]
  | [], _ => rfl
  | b :: a, h => by
    rw [List.mem_cons, not_or] at h
    rw [split, if_neg (fun e => h.1 e.symm), split_none c a h.2]; rfl
theorem chunks_app (c : UInt8) : ∀ (a l : L), c ∉ a → chunks c (a ++ c :: l) = a :: chunks c l
  | [], l, _ => by simp [chunks]
  | b :: a, l, h => by
    rw [List.mem_cons, not_or] at h
    rw [List.cons_append, chunks, if_neg (fun e => h.1 e.symm), chunks_app c a l h.2]; rfl
theorem chunks_none (c : UInt8) : ∀ (a : L), c ∉ a → a ≠ [] → chunks c a = [a]
  | [], _, h => absurd rfl h
  | [b], h, _ => by
    rw [List.mem_cons, not_or] at h
    rw [chunks, if_neg (fun e => h.1 e.symm)]; rfl
  | b :: d :: a, h, _ => by
    rw [List.mem_cons, not_or] at h
    rw [chunks, if_neg (fun e => h.1 e.symm), chunks_none c (d :: a) h.2 (by simp)]; rfl
theorem chunks_cat (c : UInt8) : ∀ (a b : L), chunks c (a ++ c :: b) = chunks c (a ++ [c]) ++ chunks c b
  | [], b => by simp [chunks]
  | x :: a, b => by
    rw [List.cons_append, List.cons_append, chunks, chunks]
    by_cases h : x = c
    · rw [if_pos h, if_pos h, chunks_cat c a b]; rfl
    · rw [if_neg h, if_neg h, chunks_cat c a b, consHd_app _ _ _ (chunks_ne c _ (by simp))]
/-- The last one that is empty is all that parts them. -/
theorem split_chunks (c : UInt8) : ∀ l : L, split c l = chunks c l ++ [[]] ∨ (split c l = chunks c l ∧ ∃ r x, chunks c l = r ++ [x] ∧ x ≠ [])
  | [] => .inl rfl
  | b :: l => by
    unfold split chunks
    by_cases h : b = c
    · rw [if_pos h, if_pos h]
      rcases split_chunks c l with e | ⟨e, r, x, e2, hx⟩
      · exact .inl (by rw [e]; rfl)
      · exact .inr ⟨by rw [e], [] :: r, x, by rw [e2]; rfl, hx⟩
    · rw [if_neg h, if_neg h]
      rcases split_chunks c l with e | ⟨e, r, x, e2, hx⟩
      · rw [e]
        cases hq : chunks c l with
        | nil => exact .inr ⟨rfl, [], [b], rfl, by simp⟩
        | cons y t => exact .inl rfl
      · refine .inr ⟨by rw [e], ?_⟩
        rw [e2]
        cases r with
        | nil => exact ⟨[], b :: x, rfl, by simp⟩
        | cons y t => exact ⟨(b :: y) :: t, x, rfl, hx⟩
theorem words_split (s : L) : (split 32 s).filter full = words s := by
  unfold words
  rcases split_chunks 32 s with e | ⟨e, _⟩
  · rw [e, List.filter_append]; simp [full]
  · rw [e]
theorem split_snoc (c : UInt8) : ∀ a : L, split c (a ++ [c]) = split c a ++ [[]]
  | [] => by simp [split]
  | x :: a => by
    rw [List.cons_append, split, split]
    by_cases h : x = c
    · rw [if_pos h, if_pos h, split_snoc c a]; rfl
    · rw [if_neg h, if_neg h, split_snoc c a, consHd_app _ _ _ (split_ne c _)]
theorem words_cat (a b : L) : words (a ++ 32 :: b) = words a ++ words b := by
  have e1 : words (a ++ [32]) = words a := by
    rw [← words_split, ← words_split, split_snoc, List.filter_append]; simp [full]
  unfold words at *
  rw [chunks_cat, List.filter_append, e1]
theorem lines_cat (a b : L) : lines (a ++ 10 :: b) = lines (a ++ [10]) ++ lines b := chunks_cat 10 a b
theorem words_blank (l : L) : words (32 :: l) = words l := by
  simp [words, chunks, full]

/-- Lines with line feeds between. -/
def glue : List L → L
  | [] => []
  | [x] => x
  | x :: y :: r => x ++ 10 :: glue (y :: r)
theorem glue_cons (x : L) (r : List L) (h : r ≠ []) : glue (x :: r) = x ++ 10 :: glue r := by
  cases r with
  | nil => exact absurd rfl h
  | cons y r => rfl
theorem glue_snoc : ∀ (r : List L) (x : L), r ≠ [] → glue (r ++ [x]) = glue r ++ 10 :: x
  | [], _, h => absurd rfl h
  | [y], x, _ => rfl
  | y :: z :: r, x, _ => by
    show glue (y :: ((z :: r) ++ [x])) = _
    rw [glue_cons y _ (by simp), glue_snoc (z :: r) x (by simp), glue_cons y (z :: r) (by simp)]; simp
theorem glue_consHd (b : UInt8) (r : List L) (h : r ≠ []) : glue (consHd b r) = b :: glue r := by
  match r, h with
  | [x], _ => rfl
  | x :: y :: r, _ => rfl
theorem glue_split : ∀ s : L, glue (split 10 s) = s
  | [] => rfl
  | b :: l => by
    unfold split
    by_cases h : b = 10
    · rw [if_pos h, glue_cons _ _ (split_ne _ _), glue_split l, h]; rfl
    · rw [if_neg h, glue_consHd _ _ (split_ne _ _), glue_split l]
theorem glue_lines (s : L) : (glue (lines s) = s ∧ (lines s = [] ∨ ∃ r x, lines s = r ++ [x] ∧ x ≠ [])) ∨ glue (lines s) ++ [10] = s := by
  unfold lines
  have g := glue_split s
  rcases split_chunks 10 s with e | ⟨e, r, x, e2, hx⟩
  · by_cases h : chunks 10 s = []
    · refine .inl ⟨?_, .inl h⟩
      rw [e, h] at g
      rw [h]; exact g
    · refine .inr ?_
      rw [e, glue_snoc _ _ h] at g
      exact g
  · exact .inl ⟨by rw [← e]; exact g, .inr ⟨r, x, e2, hx⟩⟩
theorem mem_consHd {b : UInt8} {r : List L} {x : L} (h : x ∈ consHd b r) : x ∈ r ∨ ∃ y, x = b :: y ∧ (y = [] ∨ y ∈ r) := by
  cases r with
  | nil => simp [consHd] at h; exact .inr ⟨[], h, .inl rfl⟩
  | cons z r =>
    simp only [consHd, List.mem_cons] at h
    rcases h with h | h
    · exact .inr ⟨z, h, .inr (List.mem_cons_self ..)⟩
    · exact .inl (List.mem_cons_of_mem _ h)
theorem chunks_free (c : UInt8) : ∀ (l : L) (x : L), x ∈ chunks c l → c ∉ x
  | [], x, h => by simp [chunks] at h
  | b :: l, x, h => by
    unfold chunks at h
    by_cases e : b = c
    · rw [if_pos e, List.mem_cons] at h
      rcases h with rfl | h
      · simp
      · exact chunks_free c l x h
    · rw [if_neg e] at h
      rcases mem_consHd h with h | ⟨y, rfl, hy⟩
      · exact chunks_free c l x h
      · rw [List.mem_cons, not_or]
        refine ⟨fun k => e k.symm, ?_⟩
        rcases hy with rfl | hy
        · simp
        · exact chunks_free c l y hy
theorem lines_free (s x : L) (h : x ∈ lines s) : (10 : UInt8) ∉ x := chunks_free 10 s x h
theorem words_free (s x : L) (h : x ∈ words s) : (32 : UInt8) ∉ x ∧ x ≠ [] := by
  unfold words at h
  rw [List.mem_filter] at h
  refine ⟨chunks_free 32 s x h.1, ?_⟩
  rintro rfl
  simp [full] at h
/-- A text without blanks, or with one behind something. -/
theorem cut_blank (l : L) : (32 : UInt8) ∉ l ∨ ∃ a r, l = a ++ 32 :: r ∧ (32 : UInt8) ∉ a := by
  induction l with
  | nil => exact .inl (by simp)
  | cons b l ih =>
    by_cases h : b = 32
    · exact .inr ⟨[], l, by rw [h]; rfl, by simp⟩
    · rcases ih with ih | ⟨a, r, rfl, ih⟩
      · exact .inl (by simp [ih, Ne.symm h])
      · exact .inr ⟨b :: a, r, rfl, by simp [ih, Ne.symm h]⟩
theorem words_one (a : L) (h : (32 : UInt8) ∉ a) (hn : a ≠ []) : words a = [a] := by
  unfold words
  rw [chunks_none 32 a h hn]
  cases a with
  | nil => exact absurd rfl hn
  | cons => rfl
theorem words_nil (l : L) (h : words l = []) (hh : l.head? ≠ some 32) : l = [] := by
  cases l with
  | nil => rfl
  | cons b l =>
    exfalso
    have hb : b ≠ 32 := by simpa using hh
    rcases cut_blank (b :: l) with e | ⟨a, r, e, ha⟩
    · rw [words_one _ e (by simp)] at h; cases h
    · rw [e, words_cat, words_one a ha] at h
      · cases h
      · rintro rfl; simp at e; exact hb e.1
theorem words_head (l w : L) (r : List L) (h : words l = w :: r) (hh : l.head? ≠ some 32) :
    ∃ q, l = w ++ q ∧ (32 : UInt8) ∉ w ∧ w ≠ [] ∧ words q = r ∧ (q = [] ∨ q.head? = some 32) := by
  cases l with
  | nil => cases h
  | cons b l =>
    have hb : b ≠ 32 := by simpa using hh
    rcases cut_blank (b :: l) with e | ⟨a, q, e, ha⟩
    · rw [words_one _ e (by simp)] at h
      injection h with h1 h2
      subst h1; subst h2
      exact ⟨[], by simp, e, by simp, rfl, .inl rfl⟩
    · have hn : a ≠ [] := by rintro rfl; simp at e; exact hb e.1
      rw [e, words_cat, words_one a ha hn] at h
      injection h with h1 h2
      subst h1
      exact ⟨32 :: q, e, ha, hn, by rw [words_blank]; exact h2, .inr rfl⟩

/-- Where a byte stands first. -/
theorem idx_spec (c : UInt8) : ∀ l : L, (Lib.indexByte l c = -1 ∧ c ∉ l) ∨ ∃ a r, l = a ++ c :: r ∧ c ∉ a ∧ Lib.indexByte l c = (a.length : Int)
  | [] => .inl ⟨rfl, by simp⟩
  | b :: l => by
    by_cases h : b = c
    · subst h
      exact .inr ⟨[], l, rfl, by simp, by simp [Lib.indexByte]⟩
    · have h2 : (b == c) = false := by simpa using h
      rcases idx_spec c l with ⟨e, hn⟩ | ⟨a, r, rfl, hn, e⟩
      · exact .inl ⟨by simp [Lib.indexByte, h2, e], by simp [hn, Ne.symm h]⟩
      · refine .inr ⟨b :: a, r, rfl, by simp [hn, Ne.symm h], ?_⟩
        rw [Lib.indexByte, h2, e]
        have : (((a.length : Int)) == -1) = false := by rw [beq_eq_false_iff_ne]; omega
        simp [this]
end Go.Proofs.Ytodpajnpnobfmaa.WordM
