/-
  PLAIN MATHEMATICS OF LAYER 3: lines and atoms, their words, and what words are.
-/
import Derived.Test.YtodpajnpnobfmaaNameM
import Derived.Test.YtodpajnpnobfmaaNumM
set_option linter.unusedSimpArgs false
namespace Go.Proofs.Ytodpajnpnobfmaa.OpsM
open WordM (L)
set_option linter.unusedVariables false

structure Ln where
  op : Int
  reg : L
  loc : L
  label : L
  n : Int

theorem Ln.same {a b : Ln} (h0 : a.op = b.op) (h1 : a.reg = b.reg) (h2 : a.loc = b.loc) (h3 : a.label = b.label) (h4 : a.n = b.n) : a = b := by
  cases a; cases b; simp_all

def kmov : L := [109, 111, 118]
def kxchg : L := [120, 99, 104, 103]
def kmfence : L := [109, 102, 101, 110, 99, 101]
def kcmp : L := [99, 109, 112]
def kjmp : L := [106, 109, 112]
def kje : L := [106, 101]
def kjne : L := [106, 110, 101]
def brk (o : L) : L := 91 :: (o ++ [93])
def col (b : L) : L := b ++ [58]
def regB (r : L) : Bool := decide (0 ≤ WordM.regNo r)
def emp (r : L) : Bool := decide (r = [])
def nil0 (n : Int) : Bool := decide (n = 0)

/-- What the kinds' own tests say. -/
def okNum (r o b : L) : Bool := regB r && (emp o && emp b)
def okLoc (r o b : L) (n : Int) : Bool := regB r && (WordM.nameB o && (emp b && nil0 n))
def okLab (r o b : L) (n : Int) : Bool := WordM.nameB b && (emp r && (emp o && nil0 n))
def okPut (r o b : L) : Bool := WordM.nameB o && (emp r && emp b)
def okFen (r o b : L) (n : Int) : Bool := emp r && (emp o && (emp b && nil0 n))
def right (op : Int) (r o b : L) (n : Int) : Bool :=
  if op = 1 then okNum r o b else if op = 2 then okLoc r o b n else if op = 3 then okLoc r o b n else if op = 4 then okPut r o b
  else if op = 5 then okLoc r o b n else if op = 6 then okFen r o b n else if op = 7 then okNum r o b
  else if op = 8 then okLab r o b n else if op = 9 then okLab r o b n else if op = 10 then okLab r o b n else if op = 11 then okLab r o b n else false
def rightL (l : Ln) : Bool := right l.op l.reg l.loc l.label l.n

def wordsR (op : Int) (r o b : L) (n : Int) : List L :=
  if op = 1 then [kmov, r, NumM.text n] else if op = 2 then [kmov, r, brk o] else if op = 3 then [kmov, brk o, r] else if op = 4 then [kmov, brk o, NumM.text n]
  else if op = 5 then [kxchg, brk o, r] else if op = 6 then [kmfence] else if op = 7 then [kcmp, r, NumM.text n]
  else if op = 8 then [kjmp, b] else if op = 9 then [kje, b] else if op = 10 then [kjne, b] else [col b]
def words (op : Int) (r o b : L) (n : Int) : List L := if right op r o b n then wordsR op r o b n else []
def wordsL (l : Ln) : List L := words l.op l.reg l.loc l.label l.n

/-- A suffix, or a prefix, of one byte, taken off. -/
def offEnd (c : UInt8) (s : L) : L := if s.getLast? = some c then s.dropLast else s
def offHead (c : UInt8) (s : L) : L := if s.head? = some c then s.tail else s
def inside (s : L) : L := offEnd 93 (offHead 91 s)

def zero : Ln := ⟨0, [], [], [], 0⟩
def moved (to fr : L) : Ln :=
  if (NumM.get fr).2 then (if regB to then ⟨1, to, [], [], (NumM.get fr).1⟩ else ⟨4, [], inside to, [], (NumM.get fr).1⟩)
  else if regB to then ⟨2, to, inside fr, [], 0⟩ else ⟨3, fr, inside to, [], 0⟩
def worked (f to fr : L) : Ln :=
  if f = kmov then moved to fr else if f = kxchg then ⟨5, fr, inside to, [], 0⟩ else if f = kcmp then ⟨7, to, [], [], (NumM.get fr).1⟩ else zero
def jumped (f to : L) : Ln := if f = kjmp then ⟨8, [], [], to, 0⟩ else if f = kje then ⟨9, [], [], to, 0⟩ else if f = kjne then ⟨10, [], [], to, 0⟩ else zero
def alone (s : L) : Ln := if s = kmfence then ⟨6, [], [], [], 0⟩ else ⟨11, [], [], offEnd 58 s, 0⟩
def made : List L → Ln
  | [a] => alone a
  | [a, b] => jumped a b
  | [a, b, c] => worked a b c
  | _ => zero
def get (w : List L) : Ln × Bool := if rightL (made w) && decide (wordsL (made w) = w) then (made w, true) else (zero, false)

theorem offEnd_col (b : L) : offEnd 58 (col b) = b := by simp [offEnd, col]
theorem inside_brk (o : L) : inside (brk o) = o := by simp [inside, offHead, brk, offEnd]
theorem col_fence (b : L) : col b ≠ kmfence := by
  intro e
  have := congrArg List.getLast? e
  simp [col, kmfence] at this
theorem right_cases {l : Ln} (h : rightL l = true) :
    (l.op = 1 ∧ okNum l.reg l.loc l.label = true) ∨ (l.op = 2 ∧ okLoc l.reg l.loc l.label l.n = true) ∨ (l.op = 3 ∧ okLoc l.reg l.loc l.label l.n = true) ∨
    (l.op = 4 ∧ okPut l.reg l.loc l.label = true) ∨ (l.op = 5 ∧ okLoc l.reg l.loc l.label l.n = true) ∨ (l.op = 6 ∧ okFen l.reg l.loc l.label l.n = true) ∨
    (l.op = 7 ∧ okNum l.reg l.loc l.label = true) ∨ (l.op = 8 ∧ okLab l.reg l.loc l.label l.n = true) ∨ (l.op = 9 ∧ okLab l.reg l.loc l.label l.n = true) ∨
    (l.op = 10 ∧ okLab l.reg l.loc l.label l.n = true) ∨ (l.op = 11 ∧ okLab l.reg l.loc l.label l.n = true) := by
  unfold rightL right at h
  by_cases h1 : l.op = 1
  · exact .inl ⟨h1, by simpa [h1] using h⟩
  by_cases h2 : l.op = 2
  · exact .inr (.inl ⟨h2, by simpa [h2] using h⟩)
  by_cases h3 : l.op = 3
  · exact .inr (.inr (.inl ⟨h3, by simpa [h3] using h⟩))
  by_cases h4 : l.op = 4
  · exact .inr (.inr (.inr (.inl ⟨h4, by simpa [h4] using h⟩)))
  by_cases h5 : l.op = 5
  · exact .inr (.inr (.inr (.inr (.inl ⟨h5, by simpa [h5] using h⟩))))
  by_cases h6 : l.op = 6
  · exact .inr (.inr (.inr (.inr (.inr (.inl ⟨h6, by simpa [h6] using h⟩)))))
  by_cases h7 : l.op = 7
  · exact .inr (.inr (.inr (.inr (.inr (.inr (.inl ⟨h7, by simpa [h7] using h⟩))))))
  by_cases h8 : l.op = 8
  · exact .inr (.inr (.inr (.inr (.inr (.inr (.inr (.inl ⟨h8, by simpa [h8] using h⟩)))))))
  by_cases h9 : l.op = 9
  · exact .inr (.inr (.inr (.inr (.inr (.inr (.inr (.inr (.inl ⟨h9, by simpa [h9] using h⟩))))))))
  by_cases h10 : l.op = 10
  · exact .inr (.inr (.inr (.inr (.inr (.inr (.inr (.inr (.inr (.inl ⟨h10, by simpa [h10] using h⟩)))))))))
  by_cases h11 : l.op = 11
  · exact .inr (.inr (.inr (.inr (.inr (.inr (.inr (.inr (.inr (.inr ⟨h11, by simpa [h11] using h⟩)))))))))
  simp [h1, h2, h3, h4, h5, h6, h7, h8, h9, h10, h11] at h

theorem okNum_iff {r o b : L} : okNum r o b = true ↔ (regB r = true ∧ o = [] ∧ b = []) := by simp [okNum, emp]
theorem okLoc_iff {r o b : L} {n : Int} : okLoc r o b n = true ↔ (regB r = true ∧ WordM.nameB o = true ∧ b = [] ∧ n = 0) := by simp [okLoc, emp, nil0]
theorem okLab_iff {r o b : L} {n : Int} : okLab r o b n = true ↔ (WordM.nameB b = true ∧ r = [] ∧ o = [] ∧ n = 0) := by simp [okLab, emp, nil0]
theorem okPut_iff {r o b : L} : okPut r o b = true ↔ (WordM.nameB o = true ∧ r = [] ∧ b = []) := by simp [okPut, emp]
theorem okFen_iff {r o b : L} {n : Int} : okFen r o b n = true ↔ (r = [] ∧ o = [] ∧ b = [] ∧ n = 0) := by simp [okFen, emp, nil0]

/-- Bytes of registers, names, numbers. -/
theorem reg_cases {r : L} (h : regB r = true) : r = [101, 97, 120] ∨ r = [101, 98, 120] ∨ r = [101, 99, 120] ∨ r = [101, 100, 120] := by
  rcases WordM.regNo_cases r with ⟨e, _⟩ | ⟨k, hk, e, _⟩
  · simp [regB, e] at h
  · match k, hk with
    | 0, _ => exact .inl e
    | 1, _ => exact .inr (.inl e)
    | 2, _ => exact .inr (.inr (.inl e))
    | 3, _ => exact .inr (.inr (.inr e))
theorem get_reg {r : L} (h : regB r = true) : (NumM.get r).2 = false := by
  rcases reg_cases h with rfl | rfl | rfl | rfl <;> decide +kernel
theorem text_ne_brk (n : Int) (h : NumM.inR n) (o : L) : NumM.text n ≠ brk o := by
  intro e
  obtain ⟨c, q, e2, h1, h2⟩ := NumM.text_head n h
  rw [e] at e2
  injection e2 with e3 _
  subst e3
  have := NumM.digs_digit n.natAbs (by have := NumM.natAbs_lt n h; omega)
  unfold NumM.text brk at e
  split at e
  · injection e with e _
    exact absurd e (by decide)
  · have := this 91 (by rw [e]; simp)
    exact absurd this.2 (by decide)
theorem get_brk (o : L) : (NumM.get (brk o)).2 = false := by
  rcases NumM.get_eq (brk o) with ⟨n, hn, e, _⟩ | ⟨_, e⟩
  · exact absurd e (text_ne_brk n hn o)
  · rw [e]
theorem reg_brk (o : L) : regB (brk o) = false := by
  cases h : regB (brk o) with
  | false => rfl
  | true =>
    rcases reg_cases h with e | e | e | e <;> exact absurd e (by simp [brk])

theorem words_of {l : Ln} (h : rightL l = true) : wordsL l = wordsR l.op l.reg l.loc l.label l.n := by
  unfold wordsL words; exact if_pos h

/-- There and back. -/
theorem made_words {l : Ln} (h : rightL l = true) (hn : NumM.inR l.n) : made (wordsL l) = l := by
  rw [words_of h]
  rcases right_cases h with ⟨ho, hk⟩ | ⟨ho, hk⟩ | ⟨ho, hk⟩ | ⟨ho, hk⟩ | ⟨ho, hk⟩ | ⟨ho, hk⟩ | ⟨ho, hk⟩ | ⟨ho, hk⟩ | ⟨ho, hk⟩ | ⟨ho, hk⟩ | ⟨ho, hk⟩
  · obtain ⟨h1, h2, h3⟩ := okNum_iff.1 hk
    have e : wordsR l.op l.reg l.loc l.label l.n = [kmov, l.reg, NumM.text l.n] := by simp [wordsR, ho]
    rw [e]
    refine Ln.same ?_ ?_ ?_ ?_ ?_ <;> simp [made, worked, moved, NumM.get_text _ hn, h1, h2, h3, ho]
  · obtain ⟨h1, h2, h3, h4⟩ := okLoc_iff.1 hk
    have e : wordsR l.op l.reg l.loc l.label l.n = [kmov, l.reg, brk l.loc] := by simp [wordsR, ho]
    rw [e]
    refine Ln.same ?_ ?_ ?_ ?_ ?_ <;> simp [made, worked, moved, get_brk, h1, h3, h4, ho, inside_brk]
  · obtain ⟨h1, h2, h3, h4⟩ := okLoc_iff.1 hk
    have e : wordsR l.op l.reg l.loc l.label l.n = [kmov, brk l.loc, l.reg] := by simp [wordsR, ho]
    rw [e]
    refine Ln.same ?_ ?_ ?_ ?_ ?_ <;> simp [made, worked, moved, get_reg h1, reg_brk, h3, h4, ho, inside_brk]
  · obtain ⟨h1, h2, h3⟩ := okPut_iff.1 hk
    have e : wordsR l.op l.reg l.loc l.label l.n = [kmov, brk l.loc, NumM.text l.n] := by simp [wordsR, ho]
    rw [e]
    refine Ln.same ?_ ?_ ?_ ?_ ?_ <;> simp [made, worked, moved, NumM.get_text _ hn, reg_brk, h2, h3, ho, inside_brk]
  · obtain ⟨h1, h2, h3, h4⟩ := okLoc_iff.1 hk
    have e : wordsR l.op l.reg l.loc l.label l.n = [kxchg, brk l.loc, l.reg] := by simp [wordsR, ho]
    rw [e]
    refine Ln.same ?_ ?_ ?_ ?_ ?_ <;> simp [made, worked, show kxchg ≠ kmov by decide, h3, h4, ho, inside_brk]
  · obtain ⟨h1, h2, h3, h4⟩ := okFen_iff.1 hk
    have e : wordsR l.op l.reg l.loc l.label l.n = [kmfence] := by simp [wordsR, ho]
    rw [e]
    refine Ln.same ?_ ?_ ?_ ?_ ?_ <;> simp [made, alone, h1, h2, h3, h4, ho]
  · obtain ⟨h1, h2, h3⟩ := okNum_iff.1 hk
    have e : wordsR l.op l.reg l.loc l.label l.n = [kcmp, l.reg, NumM.text l.n] := by simp [wordsR, ho]
    rw [e]
    refine Ln.same ?_ ?_ ?_ ?_ ?_ <;> simp [made, worked, show kcmp ≠ kmov by decide, show kcmp ≠ kxchg by decide, NumM.get_text _ hn, h2, h3, ho]
  · obtain ⟨h1, h2, h3, h4⟩ := okLab_iff.1 hk
    have e : wordsR l.op l.reg l.loc l.label l.n = [kjmp, l.label] := by simp [wordsR, ho]
    rw [e]
    refine Ln.same ?_ ?_ ?_ ?_ ?_ <;> simp [made, jumped, h2, h3, h4, ho]
  · obtain ⟨h1, h2, h3, h4⟩ := okLab_iff.1 hk
    have e : wordsR l.op l.reg l.loc l.label l.n = [kje, l.label] := by simp [wordsR, ho]
    rw [e]
    refine Ln.same ?_ ?_ ?_ ?_ ?_ <;> simp [made, jumped, show kje ≠ kjmp by decide, h2, h3, h4, ho]
  · obtain ⟨h1, h2, h3, h4⟩ := okLab_iff.1 hk
    have e : wordsR l.op l.reg l.loc l.label l.n = [kjne, l.label] := by simp [wordsR, ho]
    rw [e]
    refine Ln.same ?_ ?_ ?_ ?_ ?_ <;> simp [made, jumped, show kjne ≠ kjmp by decide, show kjne ≠ kje by decide, h2, h3, h4, ho]
  · obtain ⟨h1, h2, h3, h4⟩ := okLab_iff.1 hk
    have e : wordsR l.op l.reg l.loc l.label l.n = [col l.label] := by simp [wordsR, ho]
    rw [e]
    refine Ln.same ?_ ?_ ?_ ?_ ?_ <;> simp [made, alone, col_fence, offEnd_col, h2, h3, h4, ho]

theorem get_words {l : Ln} (h : rightL l = true) (hn : NumM.inR l.n) : get (wordsL l) = (l, true) := by
  unfold get; rw [made_words h hn, h]; simp
theorem get_wrong {l : Ln} (h : rightL l = false) : wordsL l = [] := by
  unfold wordsL words; rw [show right l.op l.reg l.loc l.label l.n = false from h]; rfl
theorem get_nil : get [] = (zero, false) := by
  unfold get; rw [show rightL (made []) = false by decide +kernel]; rfl
theorem get_spec (w : List L) : (rightL (made w) = true ∧ wordsL (made w) = w ∧ get w = (made w, true)) ∨ (get w = (zero, false) ∧ ∀ l, rightL l = true → NumM.inR l.n → wordsL l ≠ w) := by
  by_cases h : rightL (made w) = true ∧ wordsL (made w) = w
  · exact .inl ⟨h.1, h.2, by unfold get; rw [h.1, decide_eq_true h.2]; rfl⟩
  · refine .inr ⟨?_, fun l h1 hn h2 => h ?_⟩
    · unfold get
      rw [if_neg (by simpa using h)]
    · rw [← h2, made_words h1 hn]; exact ⟨h1, rfl⟩
theorem made_range (w : List L) : NumM.inR (made w).n := by
  have h0 := NumM.inR_zero
  unfold made
  split
  · unfold alone; split <;> exact h0
  · unfold jumped; split
    · exact h0
    · split
      · exact h0
      · split <;> exact h0
  · unfold worked; split
    · unfold moved; split
      · split <;> exact NumM.get_range _
      · split <;> exact h0
    · split
      · exact h0
      · split
        · exact NumM.get_range _
        · exact h0
  · exact h0
theorem words_inj {l m : Ln} (hl : rightL l = true) (hm : rightL m = true) (nl : NumM.inR l.n) (nm : NumM.inR m.n) (h : wordsL l = wordsL m) : l = m := by
  rw [← made_words hl nl, h, made_words hm nm]
end Go.Proofs.Ytodpajnpnobfmaa.OpsM
