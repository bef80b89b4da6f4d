/-
  PLAIN MATHEMATICS OF LAYER 3: the document's way to a line, by candidates.
-/
import Derived.Test.YtlfngcekbffngaaDoorOpsM
namespace Go.Proofs.YtlfngcekbffngaaDoor.OpsM
open WordM (L)
set_option linter.unusedVariables false
set_option linter.unusedSimpArgs false

def innC (s : L) : L := if 1 < s.length ∧ s.getLast? = some 58 then s.dropLast else []
def innB (s : L) : L := if 2 < s.length ∧ s.head? = some 91 ∧ s.getLast? = some 93 then s.tail.dropLast else []
theorem innC_col (b : L) (h : b ≠ []) : innC (col b) = b := by
  have : 0 < b.length := List.length_pos_iff.2 h
  unfold innC col
  rw [if_pos ⟨by simp; omega, by simp⟩]; simp
theorem innB_brk (o : L) (h : o ≠ []) : innB (brk o) = o := by
  have : 0 < o.length := List.length_pos_iff.2 h
  unfold innB brk
  rw [if_pos ⟨by simp; omega, rfl, by rw [← List.cons_append]; exact List.getLast?_concat⟩]; simp
def cands : List L → List Ln
  | [a] => [⟨6, [], [], [], 0⟩, ⟨11, [], [], innC a, 0⟩]
  | [a, b] => [⟨8, [], [], b, 0⟩, ⟨9, [], [], b, 0⟩, ⟨10, [], [], b, 0⟩]
  | [a, b, c] => [⟨1, b, [], [], (NumM.get c).1⟩, ⟨2, b, innB c, [], 0⟩, ⟨3, c, innB b, [], 0⟩, ⟨4, [], innB b, [], (NumM.get c).1⟩, ⟨5, c, innB b, [], 0⟩, ⟨7, b, [], [], (NumM.get c).1⟩]
  | _ => []
def okL (w : List L) (c : Ln) : Bool := rightL c && decide (wordsL c = w)
def rget (w : List L) : Ln × Bool := match (cands w).find? (okL w) with
  | some c => (c, true)
  | none => (zero, false)
theorem name_nil {l : L} (h : WordM.nameB l = true) : l ≠ [] := by intro e; subst e; exact absurd h (by decide)
theorem cand_mem {l : Ln} (h : rightL l = true) (hn : NumM.inR l.n) : l ∈ cands (wordsL l) := by
  rw [words_of h]
  rcases right_cases h with ⟨ho, hk⟩ | ⟨ho, hk⟩ | ⟨ho, hk⟩ | ⟨ho, hk⟩ | ⟨ho, hk⟩ | ⟨ho, hk⟩ | ⟨ho, hk⟩ | ⟨ho, hk⟩ | ⟨ho, hk⟩ | ⟨ho, hk⟩ | ⟨ho, hk⟩
  · obtain ⟨h1, h2, h3⟩ := okNum_iff.1 hk
    have e : wordsR l.op l.reg l.loc l.label l.n = [kmov, l.reg, NumM.text l.n] := by simp [wordsR, ho]
    rw [e]
    have : l = ⟨1, l.reg, [], [], (NumM.get (NumM.text l.n)).1⟩ := Ln.same ho rfl h2 h3 (by rw [NumM.get_text _ hn])
    rw [this]; simp [cands, NumM.get_text _ hn]
  · obtain ⟨h1, h2, h3, h4⟩ := okLoc_iff.1 hk
    have e : wordsR l.op l.reg l.loc l.label l.n = [kmov, l.reg, brk l.loc] := by simp [wordsR, ho]
    rw [e]
    have : l = ⟨2, l.reg, innB (brk l.loc), [], 0⟩ := Ln.same ho rfl (innB_brk _ (name_nil h2)).symm h3 h4
    rw [this]; simp [cands, innB_brk _ (name_nil h2)]
  · obtain ⟨h1, h2, h3, h4⟩ := okLoc_iff.1 hk
    have e : wordsR l.op l.reg l.loc l.label l.n = [kmov, brk l.loc, l.reg] := by simp [wordsR, ho]
    rw [e]
    have : l = ⟨3, l.reg, innB (brk l.loc), [], 0⟩ := Ln.same ho rfl (innB_brk _ (name_nil h2)).symm h3 h4
    rw [this]; simp [cands, innB_brk _ (name_nil h2)]
  · obtain ⟨h1, h2, h3⟩ := okPut_iff.1 hk
    have e : wordsR l.op l.reg l.loc l.label l.n = [kmov, brk l.loc, NumM.text l.n] := by simp [wordsR, ho]
    rw [e]
    have : l = ⟨4, [], innB (brk l.loc), [], (NumM.get (NumM.text l.n)).1⟩ := Ln.same ho h2 (innB_brk _ (name_nil h1)).symm h3 (by rw [NumM.get_text _ hn])
    rw [this]; simp [cands, innB_brk _ (name_nil h1), NumM.get_text _ hn]
  · obtain ⟨h1, h2, h3, h4⟩ := okLoc_iff.1 hk
    have e : wordsR l.op l.reg l.loc l.label l.n = [kxchg, brk l.loc, l.reg] := by simp [wordsR, ho]
    rw [e]
    have : l = ⟨5, l.reg, innB (brk l.loc), [], 0⟩ := Ln.same ho rfl (innB_brk _ (name_nil h2)).symm h3 h4
    rw [this]; simp [cands, innB_brk _ (name_nil h2)]
  · obtain ⟨h1, h2, h3, h4⟩ := okFen_iff.1 hk
    have e : wordsR l.op l.reg l.loc l.label l.n = [kmfence] := by simp [wordsR, ho]
    rw [e]
    have : l = ⟨6, [], [], [], 0⟩ := Ln.same ho h1 h2 h3 h4
    rw [this]; simp [cands]
  · obtain ⟨h1, h2, h3⟩ := okNum_iff.1 hk
    have e : wordsR l.op l.reg l.loc l.label l.n = [kcmp, l.reg, NumM.text l.n] := by simp [wordsR, ho]
    rw [e]
    have : l = ⟨7, l.reg, [], [], (NumM.get (NumM.text l.n)).1⟩ := Ln.same ho rfl h2 h3 (by rw [NumM.get_text _ hn])
    rw [this]; simp [cands, NumM.get_text _ hn]
  · obtain ⟨h1, h2, h3, h4⟩ := okLab_iff.1 hk
    have e : wordsR l.op l.reg l.loc l.label l.n = [kjmp, l.label] := by simp [wordsR, ho]
    rw [e]
    have : l = ⟨8, [], [], l.label, 0⟩ := Ln.same ho h2 h3 rfl h4
    rw [this]; simp [cands]
  · obtain ⟨h1, h2, h3, h4⟩ := okLab_iff.1 hk
    have e : wordsR l.op l.reg l.loc l.label l.n = [kje, l.label] := by simp [wordsR, ho]
    rw [e]
    have : l = ⟨9, [], [], l.label, 0⟩ := Ln.same ho h2 h3 rfl h4
    rw [this]; simp [cands]
  · obtain ⟨h1, h2, h3, h4⟩ := okLab_iff.1 hk
    have e : wordsR l.op l.reg l.loc l.label l.n = [kjne, l.label] := by simp [wordsR, ho]
    rw [e]
    have : l = ⟨10, [], [], l.label, 0⟩ := Ln.same ho h2 h3 rfl h4
    rw [this]; simp [cands]
  · obtain ⟨h1, h2, h3, h4⟩ := okLab_iff.1 hk
    have e : wordsR l.op l.reg l.loc l.label l.n = [col l.label] := by simp [wordsR, ho]
    rw [e]
    have : l = ⟨11, [], [], innC (col l.label), 0⟩ := Ln.same ho h2 h3 (innC_col _ (name_nil h1)).symm h4
    rw [this]; simp [cands, innC_col _ (name_nil h1)]
theorem cand_range (w : List L) : ∀ c ∈ cands w, NumM.inR c.n := by
  have h0 := NumM.inR_zero
  intro c hc
  unfold cands at hc
  split at hc
  · simp at hc; rcases hc with rfl | rfl <;> exact h0
  · simp at hc; rcases hc with rfl | rfl | rfl <;> exact h0
  · simp at hc; rcases hc with rfl | rfl | rfl | rfl | rfl | rfl <;> first | exact h0 | exact NumM.get_range _
  · simp at hc
theorem rget_eq (w : List L) : rget w = get w := by
  rcases get_spec w with ⟨h1, h2, h3⟩ | ⟨h3, hno⟩
  · rw [h3]
    unfold rget
    have hm := cand_mem h1 (made_range w)
    rw [h2] at hm
    have hok : okL w (made w) = true := by unfold okL; rw [h1, decide_eq_true h2]; rfl
    split
    · rename_i c hc
      have hc1 := List.find?_some hc
      have hc2 := List.mem_of_find?_eq_some hc
      unfold okL at hc1
      simp only [Bool.and_eq_true, decide_eq_true_eq] at hc1
      rw [words_inj hc1.1 h1 (cand_range w c hc2) (made_range w) (hc1.2.trans h2.symm)]
    · rename_i hc
      rw [List.find?_eq_none] at hc
      exact absurd hok (hc _ hm)
  · rw [h3]
    unfold rget
    split
    · rename_i c hc
      have hc1 := List.find?_some hc
      have hc2 := List.mem_of_find?_eq_some hc
      unfold okL at hc1
      simp only [Bool.and_eq_true, decide_eq_true_eq] at hc1
      exact absurd hc1.2 (hno c hc1.1 (cand_range w c hc2))
    · rfl
end Go.Proofs.YtlfngcekbffngaaDoor.OpsM
