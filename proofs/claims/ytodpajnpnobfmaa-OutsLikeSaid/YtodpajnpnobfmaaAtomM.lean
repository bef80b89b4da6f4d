/-
  PLAIN MATHEMATICS OF LAYER 3: atoms, their words, and what words are.
-/
import Derived.Test.YtodpajnpnobfmaaOpsM
set_option linter.unusedSimpArgs false
namespace Go.Proofs.Ytodpajnpnobfmaa.AtomM
open WordM (L)
open OpsM (regB)
set_option linter.unusedVariables false

structure At where
  t : Int
  nm : L
  n : Int
theorem At.same {a b : At} (h0 : a.t = b.t) (h1 : a.nm = b.nm) (h2 : a.n = b.n) : a = b := by cases a; cases b; simp_all

def asked (t : Int) (nm : L) : Bool := if t = -1 then WordM.nameB nm else (decide (0 ≤ t) && (decide (t < 3) && regB nm))
def wordR (t : Int) (nm : L) (n : Int) : L := if t = -1 then nm ++ 61 :: NumM.text n else NumM.text t ++ 58 :: (nm ++ 61 :: NumM.text n)
def word (t : Int) (nm : L) (n : Int) : L := if asked t nm then wordR t nm n else []
def before (c : UInt8) (l : L) : L := l.takeWhile (· != c)
def after (c : UInt8) (l : L) : L := (l.dropWhile (· != c)).tail
theorem before_at (c : UInt8) (a r : L) (h : c ∉ a) : before c (a ++ c :: r) = a := by
  unfold before
  rw [List.takeWhile_append_of_pos (fun x hx => by simp; intro e; subst e; exact h hx)]
  simp
theorem after_at (c : UInt8) (a r : L) (h : c ∉ a) : after c (a ++ c :: r) = r := by
  unfold after
  rw [List.dropWhile_append_of_pos (fun x hx => by simp; intro e; subst e; exact h hx)]
  simp
theorem before_none (c : UInt8) (a : L) (h : c ∉ a) : before c a = a := by
  unfold before
  have := List.takeWhile_append_of_pos (p := (· != c)) (l₁ := a) (l₂ := []) (fun x hx => by simp; intro e; subst e; exact h hx)
  simpa using this
theorem after_none (c : UInt8) (a : L) (h : c ∉ a) : after c a = [] := by
  unfold after
  have := List.dropWhile_append_of_pos (p := (· != c)) (l₁ := a) (l₂ := []) (fun x hx => by simp; intro e; subst e; exact h hx)
  rw [List.append_nil] at this
  rw [this]; rfl
def guess (s : L) : At :=
  if 58 ∈ before 61 s then ⟨(NumM.get (before 58 (before 61 s))).1, after 58 (before 61 s), (NumM.get (after 61 s)).1⟩ else ⟨-1, before 61 s, (NumM.get (after 61 s)).1⟩
def zero : At := ⟨0, [], 0⟩
def askedA (a : At) : Bool := asked a.t a.nm
def wordA (a : At) : L := word a.t a.nm a.n
def atom (s : L) : At × Bool := if askedA (guess s) && decide (wordA (guess s) = s) then (guess s, true) else (zero, false)

theorem alnum_ne {b : UInt8} (h : WordM.alnum b = true) : b ≠ 61 ∧ b ≠ 58 := by
  constructor <;> intro e <;> subst e <;> exact absurd h (by decide)
theorem name_alnum {l : L} (h : WordM.nameB l = true) : ∀ b ∈ l, WordM.alnum b = true := by
  unfold WordM.nameB at h
  simp only [Bool.and_eq_true] at h
  have := (WordM.speltB_iff l).1 h.1.1
  intro b hb
  obtain ⟨k, hk, rfl⟩ := List.mem_iff_getElem.1 hb
  exact this.2.2.2 k hk
theorem name_free {l : L} (h : WordM.nameB l = true) : 61 ∉ l ∧ 58 ∉ l :=
  ⟨fun k => (alnum_ne (name_alnum h 61 k)).1 rfl, fun k => (alnum_ne (name_alnum h 58 k)).2 rfl⟩
theorem name_ne {l : L} (h : WordM.nameB l = true) : l ≠ [] := by
  intro e; subst e; exact absurd h (by decide)
theorem reg_free {l : L} (h : regB l = true) : 61 ∉ l ∧ 58 ∉ l ∧ l.length = 3 := by
  rcases OpsM.reg_cases h with rfl | rfl | rfl | rfl <;> decide
theorem asked_cases {a : At} (h : askedA a = true) : (a.t = -1 ∧ WordM.nameB a.nm = true) ∨ ((a.t = 0 ∨ a.t = 1 ∨ a.t = 2) ∧ regB a.nm = true) := by
  unfold askedA asked at h
  by_cases e : a.t = -1
  · rw [if_pos e] at h; exact .inl ⟨e, h⟩
  · rw [if_neg e] at h
    simp only [Bool.and_eq_true, decide_eq_true_eq] at h
    exact .inr ⟨by omega, h.2.2⟩
theorem thread_text {t : Int} (h : t = 0 ∨ t = 1 ∨ t = 2) : NumM.text t = [UInt8.ofNat (48 + t.toNat)] ∧ NumM.inR t ∧ t ≠ -1 := by
  rcases h with rfl | rfl | rfl <;> exact ⟨by decide +kernel, by unfold NumM.inR; decide, by decide⟩
theorem word_asked {a : At} (h : askedA a = true) : wordA a = wordR a.t a.nm a.n := by unfold wordA word; exact if_pos h
theorem word_own {a : At} (h : askedA a = true) (ht : a.t = -1) : wordA a = a.nm ++ 61 :: NumM.text a.n := by
  rw [word_asked h]; unfold wordR; rw [if_pos ht]
theorem word_reg {a : At} (h : askedA a = true) (ht : a.t = 0 ∨ a.t = 1 ∨ a.t = 2) : wordA a = (NumM.text a.t ++ 58 :: a.nm) ++ 61 :: NumM.text a.n := by
  rw [word_asked h]; unfold wordR; rw [if_neg (thread_text ht).2.2]; simp
theorem reg_part {t : Int} {nm : L} (ht : t = 0 ∨ t = 1 ∨ t = 2) (hk : regB nm = true) : 61 ∉ NumM.text t ++ 58 :: nm := by
  have h := reg_free hk
  have d : 61 ∉ NumM.text t := by rcases ht with rfl | rfl | rfl <;> decide +kernel
  simp only [List.mem_append, List.mem_cons, not_or]
  exact ⟨d, by decide, h.1⟩
theorem thread_free {t : Int} (ht : t = 0 ∨ t = 1 ∨ t = 2) : 58 ∉ NumM.text t := by rcases ht with rfl | rfl | rfl <;> decide +kernel

/-- There and back. -/
theorem guess_word {a : At} (h : askedA a = true) (hn : NumM.inR a.n) : guess (wordA a) = a := by
  rcases asked_cases h with ⟨ht, hk⟩ | ⟨ht, hk⟩
  · have f := name_free hk
    rw [word_own h ht]
    unfold guess
    rw [before_at _ _ _ f.1, after_at _ _ _ f.1, if_neg f.2, NumM.get_text _ hn]
    exact At.same ht.symm rfl rfl
  · rw [word_reg h ht]
    unfold guess
    rw [before_at _ _ _ (reg_part ht hk), after_at _ _ _ (reg_part ht hk), if_pos (by simp), before_at _ _ _ (thread_free ht), after_at _ _ _ (thread_free ht), NumM.get_text _ hn, NumM.get_text _ (thread_text ht).2.1]
theorem atom_word {a : At} (h : askedA a = true) (hn : NumM.inR a.n) : atom (wordA a) = (a, true) := by
  unfold atom; rw [guess_word h hn, h]; simp
theorem word_wrong {a : At} (h : askedA a = false) : wordA a = [] := by
  unfold wordA word; rw [show asked a.t a.nm = false from h]; rfl
theorem word_ne {a : At} (h : askedA a = true) : wordA a ≠ [] := by
  rw [word_asked h]; unfold wordR; split <;> simp
theorem guess_range (s : L) : NumM.inR (guess s).n := by
  unfold guess; split <;> exact NumM.get_range _
theorem guess_thread (s : L) : NumM.inR (guess s).t := by
  unfold guess; split
  · exact NumM.get_range _
  · show NumM.inR (-1)
    unfold NumM.inR; decide
theorem atom_spec (s : L) : (askedA (guess s) = true ∧ wordA (guess s) = s ∧ atom s = (guess s, true)) ∨ (atom s = (zero, false) ∧ ∀ a, askedA a = true → NumM.inR a.n → wordA a ≠ s) := by
  by_cases h : askedA (guess s) = true ∧ wordA (guess s) = s
  · exact .inl ⟨h.1, h.2, by unfold atom; rw [h.1, decide_eq_true h.2]; rfl⟩
  · refine .inr ⟨?_, fun a h1 hn h2 => h ?_⟩
    · unfold atom
      rw [if_neg (by simpa using h)]
    · rw [← h2, guess_word h1 hn]; exact ⟨h1, rfl⟩
theorem word_inj {a b : At} (ha : askedA a = true) (hb : askedA b = true) (na : NumM.inR a.n) (nb : NumM.inR b.n) (h : wordA a = wordA b) : a = b := by
  rw [← guess_word ha na, h, guess_word hb nb]

/-- What the document's Atom makes of a text. -/
def rguess (s : L) : At :=
  if 2 < (before 61 s).length ∧ (before 61 s)[1]? = some 58 then ⟨(((before 61 s).headD 0).toNat : Int) - 48, (before 61 s).drop 2, (NumM.get (after 61 s)).1⟩ else ⟨-1, before 61 s, (NumM.get (after 61 s)).1⟩
def ratom (s : L) : At × Bool := if 61 ∈ s then (if (NumM.get (after 61 s)).2 && decide (wordA (rguess s) = s) then (rguess s, true) else (zero, false)) else (zero, false)
theorem rguess_range (s : L) : NumM.inR (rguess s).n := by
  unfold rguess; split <;> exact NumM.get_range _
theorem rguess_word {a : At} (h : askedA a = true) (hn : NumM.inR a.n) : 61 ∈ wordA a ∧ (NumM.get (after 61 (wordA a))).2 = true ∧ rguess (wordA a) = a := by
  rcases asked_cases h with ⟨ht, hk⟩ | ⟨ht, hk⟩
  · have f := name_free hk
    rw [word_own h ht]
    refine ⟨by simp, by rw [after_at _ _ _ f.1, NumM.get_text _ hn], ?_⟩
    unfold rguess
    rw [before_at _ _ _ f.1, after_at _ _ _ f.1, if_neg, NumM.get_text _ hn]
    · exact At.same ht.symm rfl rfl
    · intro hh
      exact f.2 (List.mem_of_getElem? hh.2)
  · have hp := reg_part ht hk
    have hf := reg_free hk
    rw [word_reg h ht]
    refine ⟨by simp, by rw [after_at _ _ _ hp, NumM.get_text _ hn], ?_⟩
    unfold rguess
    rw [before_at _ _ _ hp, after_at _ _ _ hp, NumM.get_text _ hn, (thread_text ht).1]
    rw [if_pos (by simp; omega)]
    refine At.same ?_ rfl rfl
    rcases ht with e | e | e <;> (simp [e])
theorem ratom_eq (s : L) : ratom s = atom s := by
  rcases atom_spec s with ⟨h1, h2, h3⟩ | ⟨h3, hno⟩
  · rw [h3]
    obtain ⟨g1, g2, g3⟩ := rguess_word h1 (guess_range s)
    rw [h2] at g1 g2 g3
    unfold ratom
    rw [if_pos g1, g3, g2, h2]; simp
  · rw [h3]
    unfold ratom
    split
    · split
      · rename_i h61 hh
        simp only [Bool.and_eq_true, decide_eq_true_eq] at hh
        exfalso
        cases hask : askedA (rguess s) with
        | true => exact hno _ hask (rguess_range s) hh.2
        | false =>
          have := word_wrong hask
          rw [hh.2] at this
          subst this
          simp at h61
      · rfl
    · rfl
end Go.Proofs.Ytodpajnpnobfmaa.AtomM
