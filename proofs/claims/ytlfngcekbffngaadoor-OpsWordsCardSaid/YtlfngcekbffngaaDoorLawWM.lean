/-
  PLAIN MATHEMATICS of OpsWords: the words of a right line have no blank, and with one more word behind them there is no line of three.
-/
import Derived.Test.YtlfngcekbffngaaDoorOpsN
namespace Go.Proofs.YtlfngcekbffngaaDoor.OpsM
open WordM (L)
set_option linter.unusedVariables false

/-- A byte that is no blank, all of them. -/
def plain (l : L) : Prop := l ≠ [] ∧ (32 : UInt8) ∉ l
theorem plain_reg {r : L} (h : regB r = true) : plain r := by
  rcases reg_cases h with rfl | rfl | rfl | rfl <;> exact ⟨by decide, by decide⟩
theorem free_name {o : L} (h : WordM.nameB o = true) : plain o := by
  unfold WordM.nameB at h
  simp only [Bool.and_eq_true] at h
  obtain ⟨h0, _, _, ha⟩ := (WordM.speltB_iff o).1 h.1.1
  refine ⟨h0, fun hm => ?_⟩
  obtain ⟨k, hk, e⟩ := List.mem_iff_getElem.1 hm
  have := ha k hk
  rw [e] at this
  exact absurd this (by decide)
theorem free_digs (n : Nat) (h : n < 10 ^ 20) : plain (NumM.digs n) :=
  ⟨NumM.digs_ne n h, fun hm => absurd (NumM.digs_digit n h 32 hm).1 (by decide)⟩
theorem plain_text {n : Int} (h : NumM.inR n) : plain (NumM.text n) := by
  have hb : n.natAbs < 10 ^ 20 := by have := NumM.natAbs_lt n h; omega
  have hd := free_digs n.natAbs hb
  unfold NumM.text
  split
  · refine ⟨by simp, fun hm => ?_⟩
    rcases List.mem_cons.1 hm with e | e
    · exact absurd e (by decide)
    · exact hd.2 e
  · exact hd
theorem plain_brk {o : L} (h : plain o) : plain (brk o) := by
  refine ⟨by simp [brk], fun hm => ?_⟩
  have hm : (32 : UInt8) ∈ (91 : UInt8) :: (o ++ [93]) := hm
  rcases List.mem_cons.1 hm with e | e
  · exact absurd e (by decide)
  · rcases List.mem_append.1 e with e | e
    · exact h.2 e
    · exact absurd e (by decide)
theorem plain_col {o : L} (h : plain o) : plain (col o) := by
  refine ⟨by simp [col], fun hm => ?_⟩
  have hm : (32 : UInt8) ∈ o ++ [58] := hm
  rcases List.mem_append.1 hm with e | e
  · exact h.2 e
  · exact absurd e (by decide)
theorem plain3 {a b c : L} (ha : plain a) (hb : plain b) (hc : plain c) : ∀ x ∈ [a, b, c], plain x := by
  intro x hx
  simp only [List.mem_cons, List.not_mem_nil, or_false] at hx
  rcases hx with rfl | rfl | rfl
  · exact ha
  · exact hb
  · exact hc
theorem plain2 {a b : L} (ha : plain a) (hb : plain b) : ∀ x ∈ [a, b], plain x := by
  intro x hx
  simp only [List.mem_cons, List.not_mem_nil, or_false] at hx
  rcases hx with rfl | rfl
  · exact ha
  · exact hb
theorem plain1 {a : L} (ha : plain a) : ∀ x ∈ [a], plain x := by
  intro x hx
  simp only [List.mem_cons, List.not_mem_nil, or_false] at hx
  exact hx ▸ ha
theorem kplain : plain kmov ∧ plain kxchg ∧ plain kmfence ∧ plain kcmp ∧ plain kjmp ∧ plain kje ∧ plain kjne :=
  ⟨⟨by decide, by decide⟩, ⟨by decide, by decide⟩, ⟨by decide, by decide⟩, ⟨by decide, by decide⟩, ⟨by decide, by decide⟩, ⟨by decide, by decide⟩, ⟨by decide, by decide⟩⟩
theorem words_plain {l : Ln} (h : rightL l = true) (hn : NumM.inR l.n) : ∀ x ∈ wordsL l, plain x := by
  obtain ⟨k1, k2, k3, k4, k5, k6, k7⟩ := kplain
  rw [words_of h]
  rcases right_cases h with ⟨ho, hk⟩ | ⟨ho, hk⟩ | ⟨ho, hk⟩ | ⟨ho, hk⟩ | ⟨ho, hk⟩ | ⟨ho, hk⟩ | ⟨ho, hk⟩ | ⟨ho, hk⟩ | ⟨ho, hk⟩ | ⟨ho, hk⟩ | ⟨ho, hk⟩
  · obtain ⟨h1, h2, h3⟩ := okNum_iff.1 hk
    rw [show wordsR l.op l.reg l.loc l.label l.n = [kmov, l.reg, NumM.text l.n] by simp [wordsR, ho]]
    exact plain3 k1 (plain_reg h1) (plain_text hn)
  · obtain ⟨h1, h2, h3, h4⟩ := okLoc_iff.1 hk
    rw [show wordsR l.op l.reg l.loc l.label l.n = [kmov, l.reg, brk l.loc] by simp [wordsR, ho]]
    exact plain3 k1 (plain_reg h1) (plain_brk (free_name h2))
  · obtain ⟨h1, h2, h3, h4⟩ := okLoc_iff.1 hk
    rw [show wordsR l.op l.reg l.loc l.label l.n = [kmov, brk l.loc, l.reg] by simp [wordsR, ho]]
    exact plain3 k1 (plain_brk (free_name h2)) (plain_reg h1)
  · obtain ⟨h1, h2, h3⟩ := okPut_iff.1 hk
    rw [show wordsR l.op l.reg l.loc l.label l.n = [kmov, brk l.loc, NumM.text l.n] by simp [wordsR, ho]]
    exact plain3 k1 (plain_brk (free_name h1)) (plain_text hn)
  · obtain ⟨h1, h2, h3, h4⟩ := okLoc_iff.1 hk
    rw [show wordsR l.op l.reg l.loc l.label l.n = [kxchg, brk l.loc, l.reg] by simp [wordsR, ho]]
    exact plain3 k2 (plain_brk (free_name h2)) (plain_reg h1)
  · rw [show wordsR l.op l.reg l.loc l.label l.n = [kmfence] by simp [wordsR, ho]]
    exact plain1 k3
  · obtain ⟨h1, h2, h3⟩ := okNum_iff.1 hk
    rw [show wordsR l.op l.reg l.loc l.label l.n = [kcmp, l.reg, NumM.text l.n] by simp [wordsR, ho]]
    exact plain3 k4 (plain_reg h1) (plain_text hn)
  · obtain ⟨h1, h2, h3, h4⟩ := okLab_iff.1 hk
    rw [show wordsR l.op l.reg l.loc l.label l.n = [kjmp, l.label] by simp [wordsR, ho]]
    exact plain2 k5 (free_name h1)
  · obtain ⟨h1, h2, h3, h4⟩ := okLab_iff.1 hk
    rw [show wordsR l.op l.reg l.loc l.label l.n = [kje, l.label] by simp [wordsR, ho]]
    exact plain2 k6 (free_name h1)
  · obtain ⟨h1, h2, h3, h4⟩ := okLab_iff.1 hk
    rw [show wordsR l.op l.reg l.loc l.label l.n = [kjne, l.label] by simp [wordsR, ho]]
    exact plain2 k7 (free_name h1)
  · obtain ⟨h1, h2, h3, h4⟩ := okLab_iff.1 hk
    rw [show wordsR l.op l.reg l.loc l.label l.n = [col l.label] by simp [wordsR, ho]]
    exact plain1 (plain_col (free_name h1))
/-- Each word of a right line is one word. -/
theorem words_single {l : Ln} (h : rightL l = true) (hn : NumM.inR l.n) : ∀ x ∈ wordsL l, WordM.words x = [x] := fun x hx =>
  WordM.words_one x (words_plain h hn x hx).2 (words_plain h hn x hx).1
theorem get_four (ws : List L) (s : L) (h : ws.length = 3) : get (ws ++ [s]) = (zero, false) := by
  match ws, h with
  | [a, b, c], _ =>
    unfold get
    rw [if_neg]
    show ¬ (rightL (made [a, b, c, s]) && decide (wordsL (made [a, b, c, s]) = [a, b, c, s])) = true
    rw [show made [a, b, c, s] = zero from rfl, show rightL zero = false by decide +kernel]
    simp
end Go.Proofs.YtlfngcekbffngaaDoor.OpsM
