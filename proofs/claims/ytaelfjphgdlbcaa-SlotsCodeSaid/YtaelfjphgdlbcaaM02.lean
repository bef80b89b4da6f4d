/-
  ROWS OF LINES in memory: what it says that a slice reads as lines; the small tests of package valid on one line.
  MAPS THAT COUNT NAMES: what it says that a map of the call's own holds, of each text, a number; valid.labels.
  PLAIN MATHEMATICS OF LAYER 4: what is wrong with a line of a thread.
  PLAIN MATHEMATICS OF LAYER 3: atoms, their words, and what words are.
  PLAIN MATHEMATICS OF LAYER 4: programs, and what is wrong with one first.
  ATOMS as values; ops.Asked, over any world that holds the registers.
  BOXES OF LINES AND ATOMS: a struct's cells in a block, kept behind calls that make memory alone.
  PROGRAMS in memory: what it says that a value is a program, with its rows of cells, threads and atoms.
  PLAIN MATHEMATICS OF LAYER 7: programs as plain steps.
-/
import Derived.Test.YtaelfjphgdlbcaaM01
import Derived.Maps.Own
import Derived.Maps.OwnOps
import Derived.Maps.OwnSet
import Derived.Maps.Views
import Derived.StillTailTactics
import Derived.Deep.RegionHeld3
namespace Go.Proofs.Ytaelfjphgdlbcaa
open Go.RowKit
set_option linter.unusedVariables false
set_option linter.unusedSimpArgs false
open WordM (L)

/-- Five cells from f on of block b hold the line l. -/
def LnAt (w : World) (b f : Nat) (l : OpsM.Ln) : Prop :=
  w.cell? ⟨b, f, none⟩ = some (.int .i64 l.op) ∧ w.cell? ⟨b, f + 1, none⟩ = some (.string ⟨l.reg.toArray⟩) ∧ w.cell? ⟨b, f + 2, none⟩ = some (.string ⟨l.loc.toArray⟩) ∧
    w.cell? ⟨b, f + 3, none⟩ = some (.string ⟨l.label.toArray⟩) ∧ w.cell? ⟨b, f + 4, none⟩ = some (.int .i64 l.n)
theorem LnAt.below {w w' : World} {B b f : Nat} {l : OpsM.Ln} (h : LnAt w b f l) (hb : Below B w w') (hlt : b < B) : LnAt w' b f l :=
  ⟨(hb.cell (p := ⟨b, f, none⟩) hlt).trans h.1, (hb.cell (p := ⟨b, f + 1, none⟩) hlt).trans h.2.1, (hb.cell (p := ⟨b, f + 2, none⟩) hlt).trans h.2.2.1, (hb.cell (p := ⟨b, f + 3, none⟩) hlt).trans h.2.2.2.1, (hb.cell (p := ⟨b, f + 4, none⟩) hlt).trans h.2.2.2.2⟩
/-- The value v is a slice that reads as the lines ls, in a block below B. -/
def Lns (B : Nat) (w : World) (v : Value) (ls : List OpsM.Ln) : Prop :=
  ∃ A c, v = .slice A ls.length c ∧ ls.length ≤ c ∧ c ≤ maxLen ∧
    (0 < ls.length → ∃ b f, A = some ⟨b, f, none⟩ ∧ b < B ∧ ∀ j (h : j < ls.length), LnAt w b (f + j * 5) ls[j])
theorem Lns.below {B : Nat} {w w' : World} {v : Value} {ls : List OpsM.Ln} (h : Lns B w v ls) (hb : Below B w w') : Lns B w' v ls := by
  obtain ⟨A, c, e, h1, h2, h3⟩ := h
  refine ⟨A, c, e, h1, h2, fun k => ?_⟩
  obtain ⟨b, f, e2, h4, h5⟩ := h3 k
  exact ⟨b, f, e2, h4, fun j hj => (h5 j hj).below hb h4⟩
theorem Lns.more {B B' : Nat} {w : World} {v : Value} {ls : List OpsM.Ln} (h : Lns B w v ls) (hb : B ≤ B') : Lns B' w v ls := by
  obtain ⟨A, c, e, h1, h2, h3⟩ := h
  refine ⟨A, c, e, h1, h2, fun k => ?_⟩
  obtain ⟨b, f, e2, h4, h5⟩ := h3 k
  exact ⟨b, f, e2, by omega, h5⟩

end Go.Proofs.Ytaelfjphgdlbcaa
namespace Go.Proofs.Ytaelfjphgdlbcaa
open Go.RowKit Go.WideMaps Go.Maps
set_option linter.unusedVariables false
set_option linter.unusedSimpArgs false
open WordM (L)

theorem strKey : Keyed Try.prog 9 := string_keyed Try.underlying9
theorem zeroInt (w : World) : (zeroValue 3).run Try.prog w = .ok (.int .i64 0) w := by kernel_rfl
abbrev MD := DataW Unit
/-- Block b is a map of at most n entries, whose number at each text s is f s. -/
def CMap (w : World) (b n : Nat) (f : L → Int) (D : MD) : Prop :=
  w.ownsMap Try.prog 9 (plainElem Try.prog 3) b n D ∧ ∀ s : L, D.atKey (.string s) (.lit (.int .i64 0)) = .lit (.int .i64 (f s))
theorem CMap.made (w : World) : CMap (w.alloc (.map #[] 0)) w.heap.size 0 (fun _ => 0) (.map []) := ⟨World.ownsMap_made _ _ _ _, fun s => rfl⟩
theorem CMap.below {w w' : World} {b n : Nat} {f : L → Int} {D : MD} (h : CMap w b n f D) (hb : Below w.heap.size w w') : CMap w' b n f D := by
  obtain ⟨⟨es, clock, he, h1, h2, h3⟩, h4⟩ := h
  have hlt : b < w.heap.size := (Array.getElem?_eq_some_iff.1 he).1
  exact ⟨⟨es, clock, (hb.block b hlt).trans he, h1, h2, h3⟩, h4⟩
theorem CMap.lt {w : World} {b n : Nat} {f : L → Int} {D : MD} (h : CMap w b n f D) : b < w.heap.size := by
  obtain ⟨⟨es, clock, he, _⟩, _⟩ := h
  exact (Array.getElem?_eq_some_iff.1 he).1
theorem CMap.more {w : World} {b n m : Nat} {f g : L → Int} {D : MD} (h : CMap w b n f D) (hnm : n ≤ m) (hfg : ∀ s, f s = g s) : CMap w b m g D := by
  obtain ⟨⟨es, clock, he, h1, h2, h3⟩, h4⟩ := h
  exact ⟨⟨es, clock, he, h1, Nat.le_trans h2 hnm, h3⟩, fun s => by rw [h4 s, hfg s]⟩
theorem CMap.val {w : World} {b n : Nat} {f : L → Int} {D : MD} (h : CMap w b n f D) {s : L} {c : Int} (hat : D.atKey (.string s) (.lit (.int .i64 0)) = .lit (.int .i64 c)) : c = f s := by
  have := hat.symm.trans (h.2 s)
  injection this with e
  injection e
theorem CMap.put {w w1 : World} {b n m : Nat} {f : L → Int} {D : MD} {s : L} {x : Int} (h : CMap w b n f D) (hown : w1.ownsMap Try.prog 9 (plainElem Try.prog 3) b m (D.put (.string s) (.lit (.int .i64 x)))) :
    CMap w1 b m (fun t => if t = s then x else f t) (D.put (.string s) (.lit (.int .i64 x))) := by
  refine ⟨hown, fun t => ?_⟩
  show (D.put (.string s) (.lit (.int .i64 x))).atKey (.string t) (.lit (.int .i64 0)) = .lit (.int .i64 (if t = s then x else f t))
  by_cases e : t = s
  · subst e
    rw [if_pos rfl]
    exact atKey_put_same (h.1.isMap) (by trivial) _ _
  · rw [if_neg e]
    exact (atKey_put_other (fun h => e (by injection h)) _ _).trans (h.2 t)

/-- How often a label stands in some lines. -/
def lcnt (ls : List OpsM.Ln) (s : L) : Nat := (ls.filter (fun l => decide (l.op = 11) && decide (l.label = s))).length
theorem lcnt_take (ls : List OpsM.Ln) (k : Nat) (h : k < ls.length) (s : L) : lcnt (ls.take (k + 1)) s = lcnt (ls.take k) s + if ls[k].op = 11 ∧ ls[k].label = s then 1 else 0 := by
  unfold lcnt
  rw [List.take_succ_eq_append_getElem h, List.filter_append, List.length_append]
  by_cases c : ls[k].op = 11 ∧ ls[k].label = s
  · rw [if_pos c, List.filter_cons_of_pos (by simp [c.1, c.2])]; rfl
  · rw [if_neg c, List.filter_cons_of_neg (by simpa using c)]; rfl
theorem lcnt_le (ls : List OpsM.Ln) (s : L) : lcnt ls s ≤ ls.length := List.length_filter_le _ _
def LbRel (ls : List OpsM.Ln) (w : World) (i : Value) (wr : World) : Prop :=
  ∃ (k : Nat) (D : MD), k ≤ ls.length ∧ i = .int .i64 k ∧ CMap wr w.heap.size k (fun s => (lcnt (ls.take k) s : Int)) D ∧ Below w.heap.size w wr
end Go.Proofs.Ytaelfjphgdlbcaa
namespace Go.Proofs.Ytaelfjphgdlbcaa.VM
open WordM (L)
open OpsM (Ln)
set_option linter.unusedVariables false

def insB (l : Ln) : Bool := !(l.op == 6) && !(l.op == 11)
def labB (l : Ln) : Bool := l.op == 11
def jmpB (l : Ln) : Bool := decide (8 ≤ l.op) && decide (l.op ≤ 10)
def cI (ls : List Ln) : Nat := (ls.filter insB).length
def cM (ls : List Ln) : Nat := (ls.filter labB).length
/-- Is the line right ahead of the k-th a fence? -/
def fenB (ls : List Ln) (k : Nat) : Bool := match k with | 0 => false | k + 1 => match ls[k]? with | some l => l.op == 6 | none => false
/-- What is wrong with the k-th line, x; 0, if nothing is. -/
def lineC (ls : List Ln) (k : Nat) (x : Ln) : Int :=
  if OpsM.rightL x = false then 11 else if x.op = 11 ∧ 0 < lcnt (ls.take k) x.label then 21 else if x.op = 6 ∧ fenB ls k = true then 23
  else if jmpB x = true ∧ lcnt (ls.drop (k + 1)) x.label = 0 then 22 else if (insB x = true ∧ 8 ≤ cI (ls.take k)) ∨ (x.op = 11 ∧ 8 ≤ cM (ls.take k)) then 5 else 0
theorem cI_take (ls : List Ln) (k : Nat) (h : k < ls.length) : cI (ls.take (k + 1)) = cI (ls.take k) + if insB ls[k] then 1 else 0 := by
  unfold cI
  rw [List.take_succ_eq_append_getElem h, List.filter_append, List.length_append]
  cases c : insB ls[k]
  · rw [List.filter_cons_of_neg (by simp [c])]; rfl
  · rw [List.filter_cons_of_pos c]; rfl
theorem cM_take (ls : List Ln) (k : Nat) (h : k < ls.length) : cM (ls.take (k + 1)) = cM (ls.take k) + if labB ls[k] then 1 else 0 := by
  unfold cM
  rw [List.take_succ_eq_append_getElem h, List.filter_append, List.length_append]
  cases c : labB ls[k]
  · rw [List.filter_cons_of_neg (by simp [c])]; rfl
  · rw [List.filter_cons_of_pos c]; rfl
theorem cI_le (ls : List Ln) (k : Nat) : cI (ls.take k) ≤ k := Nat.le_trans (List.length_filter_le _ _) (List.length_take_le _ _)
theorem cM_le (ls : List Ln) (k : Nat) : cM (ls.take k) ≤ k := Nat.le_trans (List.length_filter_le _ _) (List.length_take_le _ _)
theorem lcnt_drop (ls : List Ln) (k : Nat) (h : k < ls.length) (s : L) : lcnt (ls.drop k) s = (if ls[k].op = 11 ∧ ls[k].label = s then 1 else 0) + lcnt (ls.drop (k + 1)) s := by
  unfold lcnt
  rw [List.drop_eq_getElem_cons h]
  by_cases c : ls[k].op = 11 ∧ ls[k].label = s
  · rw [if_pos c, List.filter_cons_of_pos (by simp [c.1, c.2]), List.length_cons]; omega
  · rw [if_neg c, List.filter_cons_of_neg (by simpa using c)]; omega
end Go.Proofs.Ytaelfjphgdlbcaa.VM
namespace Go.Proofs.Ytaelfjphgdlbcaa.AtomM
open WordM (L)
open OpsM (regB)
set_option linter.unusedVariables false

structure At where
  t : Int
  nm : L
  n : Int
theorem At.same {a b : At} (h0 : a.t = b.t) (h1 : a.nm = b.nm) (h2 : a.n = b.n) : a = b := by cases a; cases b; simp_all

def asked (t : Int) (nm : L) : Bool := if t = -1 then WordM.nameB nm else (decide (0 ≤ t) && (decide (t < 3) && regB nm))
def wordR (t : Int) (nm : L) (n : Int) : L := if t = -1 then nm ++ 61 :: NumM.text n else NumM.text t ++ 58 :: (nm ++ 61 :: NumM.text n)
def word (t : Int) (nm : L) (n : Int) : L := if asked t nm then wordR t nm n else []
def before (c : UInt8) (l : L) : L := l.takeWhile (· != c)
def after (c : UInt8) (l : L) : L := (l.dropWhile (· != c)).tail
theorem before_at (c : UInt8) (a r : L) (h : c ∉ a) : before c (a ++ c :: r) = a := by
  unfold before
  rw [List.takeWhile_append_of_pos (fun x hx => by simp; intro e; subst e; exact h hx)]
  simp
theorem after_at (c : UInt8) (a r : L) (h : c ∉ a) : after c (a ++ c :: r) = r := by
  unfold after
  rw [List.dropWhile_append_of_pos (fun x hx => by simp; intro e; subst e; exact h hx)]
  simp
theorem before_none (c : UInt8) (a : L) (h : c ∉ a) : before c a = a := by
  unfold before
  have := List.takeWhile_append_of_pos (p := (· != c)) (l₁ := a) (l₂ := []) (fun x hx => by simp; intro e; subst e; exact h hx)
  simpa using this
theorem after_none (c : UInt8) (a : L) (h : c ∉ a) : after c a = [] := by
  unfold after
  have := List.dropWhile_append_of_pos (p := (· != c)) (l₁ := a) (l₂ := []) (fun x hx => by simp; intro e; subst e; exact h hx)
  rw [List.append_nil] at this
  rw [this]; rfl
def guess (s : L) : At :=
  if 58 ∈ before 61 s then ⟨(NumM.get (before 58 (before 61 s))).1, after 58 (before 61 s), (NumM.get (after 61 s)).1⟩ else ⟨-1, before 61 s, (NumM.get (after 61 s)).1⟩
def zero : At := ⟨0, [], 0⟩
def askedA (a : At) : Bool := asked a.t a.nm
def wordA (a : At) : L := word a.t a.nm a.n
def atom (s : L) : At × Bool := if askedA (guess s) && decide (wordA (guess s) = s) then (guess s, true) else (zero, false)

theorem alnum_ne {b : UInt8} (h : WordM.alnum b = true) : b ≠ 61 ∧ b ≠ 58 := by
  constructor <;> intro e <;> subst e <;> exact absurd h (by decide)
theorem name_alnum {l : L} (h : WordM.nameB l = true) : ∀ b ∈ l, WordM.alnum b = true := by
  unfold WordM.nameB at h
  simp only [Bool.and_eq_true] at h
  have := (WordM.speltB_iff l).1 h.1.1
  intro b hb
  obtain ⟨k, hk, rfl⟩ := List.mem_iff_getElem.1 hb
  exact this.2.2.2 k hk
theorem name_free {l : L} (h : WordM.nameB l = true) : 61 ∉ l ∧ 58 ∉ l :=
  ⟨fun k => (alnum_ne (name_alnum h 61 k)).1 rfl, fun k => (alnum_ne (name_alnum h 58 k)).2 rfl⟩
theorem name_ne {l : L} (h : WordM.nameB l = true) : l ≠ [] := by
  intro e; subst e; exact absurd h (by decide)
theorem reg_free {l : L} (h : regB l = true) : 61 ∉ l ∧ 58 ∉ l ∧ l.length = 3 := by
  rcases OpsM.reg_cases h with rfl | rfl | rfl | rfl <;> decide
theorem asked_cases {a : At} (h : askedA a = true) : (a.t = -1 ∧ WordM.nameB a.nm = true) ∨ ((a.t = 0 ∨ a.t = 1 ∨ a.t = 2) ∧ regB a.nm = true) := by
  unfold askedA asked at h
  by_cases e : a.t = -1
  · rw [if_pos e] at h; exact .inl ⟨e, h⟩
  · rw [if_neg e] at h
    simp only [Bool.and_eq_true, decide_eq_true_eq] at h
    exact .inr ⟨by omega, h.2.2⟩
theorem thread_text {t : Int} (h : t = 0 ∨ t = 1 ∨ t = 2) : NumM.text t = [UInt8.ofNat (48 + t.toNat)] ∧ NumM.inR t ∧ t ≠ -1 := by
  rcases h with rfl | rfl | rfl <;> exact ⟨by decide +kernel, by unfold NumM.inR; decide, by decide⟩
theorem word_asked {a : At} (h : askedA a = true) : wordA a = wordR a.t a.nm a.n := by unfold wordA word; exact if_pos h
theorem word_own {a : At} (h : askedA a = true) (ht : a.t = -1) : wordA a = a.nm ++ 61 :: NumM.text a.n := by
  rw [word_asked h]; unfold wordR; rw [if_pos ht]
theorem word_reg {a : At} (h : askedA a = true) (ht : a.t = 0 ∨ a.t = 1 ∨ a.t = 2) : wordA a = (NumM.text a.t ++ 58 :: a.nm) ++ 61 :: NumM.text a.n := by
  rw [word_asked h]; unfold wordR; rw [if_neg (thread_text ht).2.2]; simp
theorem reg_part {t : Int} {nm : L} (ht : t = 0 ∨ t = 1 ∨ t = 2) (hk : regB nm = true) : 61 ∉ NumM.text t ++ 58 :: nm := by
  have h := reg_free hk
  have d : 61 ∉ NumM.text t := by rcases ht with rfl | rfl | rfl <;> decide +kernel
  simp only [List.mem_append, List.mem_cons, not_or]
  exact ⟨d, by decide, h.1⟩
theorem thread_free {t : Int} (ht : t = 0 ∨ t = 1 ∨ t = 2) : 58 ∉ NumM.text t := by rcases ht with rfl | rfl | rfl <;> decide +kernel

/-- There and back. -/
theorem guess_word {a : At} (h : askedA a = true) (hn : NumM.inR a.n) : guess (wordA a) = a := by
  rcases asked_cases h with ⟨ht, hk⟩ | ⟨ht, hk⟩
  · have f := name_free hk
    rw [word_own h ht]
    unfold guess
    rw [before_at _ _ _ f.1, after_at _ _ _ f.1, if_neg f.2, NumM.get_text _ hn]
    exact At.same ht.symm rfl rfl
  · rw [word_reg h ht]
    unfold guess
    rw [before_at _ _ _ (reg_part ht hk), after_at _ _ _ (reg_part ht hk), if_pos (by simp), before_at _ _ _ (thread_free ht), after_at _ _ _ (thread_free ht), NumM.get_text _ hn, NumM.get_text _ (thread_text ht).2.1]
theorem atom_word {a : At} (h : askedA a = true) (hn : NumM.inR a.n) : atom (wordA a) = (a, true) := by
  unfold atom; rw [guess_word h hn, h]; simp
theorem word_wrong {a : At} (h : askedA a = false) : wordA a = [] := by
  unfold wordA word; rw [show asked a.t a.nm = false from h]; rfl
theorem word_ne {a : At} (h : askedA a = true) : wordA a ≠ [] := by
  rw [word_asked h]; unfold wordR; split <;> simp
theorem guess_range (s : L) : NumM.inR (guess s).n := by
  unfold guess; split <;> exact NumM.get_range _
theorem guess_thread (s : L) : NumM.inR (guess s).t := by
  unfold guess; split
  · exact NumM.get_range _
  · show NumM.inR (-1)
    unfold NumM.inR; decide
theorem atom_spec (s : L) : (askedA (guess s) = true ∧ wordA (guess s) = s ∧ atom s = (guess s, true)) ∨ (atom s = (zero, false) ∧ ∀ a, askedA a = true → NumM.inR a.n → wordA a ≠ s) := by
  by_cases h : askedA (guess s) = true ∧ wordA (guess s) = s
  · exact .inl ⟨h.1, h.2, by unfold atom; rw [h.1, decide_eq_true h.2]; rfl⟩
  · refine .inr ⟨?_, fun a h1 hn h2 => h ?_⟩
    · unfold atom
      rw [if_neg (by simpa using h)]
    · rw [← h2, guess_word h1 hn]; exact ⟨h1, rfl⟩
theorem word_inj {a b : At} (ha : askedA a = true) (hb : askedA b = true) (na : NumM.inR a.n) (nb : NumM.inR b.n) (h : wordA a = wordA b) : a = b := by
  rw [← guess_word ha na, h, guess_word hb nb]

/-- What the document's Atom makes of a text. -/
def rguess (s : L) : At :=
  if 2 < (before 61 s).length ∧ (before 61 s)[1]? = some 58 then ⟨(((before 61 s).headD 0).toNat : Int) - 48, (before 61 s).drop 2, (NumM.get (after 61 s)).1⟩ else ⟨-1, before 61 s, (NumM.get (after 61 s)).1⟩
def ratom (s : L) : At × Bool := if 61 ∈ s then (if (NumM.get (after 61 s)).2 && decide (wordA (rguess s) = s) then (rguess s, true) else (zero, false)) else (zero, false)
theorem rguess_range (s : L) : NumM.inR (rguess s).n := by
  unfold rguess; split <;> exact NumM.get_range _
theorem rguess_word {a : At} (h : askedA a = true) (hn : NumM.inR a.n) : 61 ∈ wordA a ∧ (NumM.get (after 61 (wordA a))).2 = true ∧ rguess (wordA a) = a := by
  rcases asked_cases h with ⟨ht, hk⟩ | ⟨ht, hk⟩
  · have f := name_free hk
    rw [word_own h ht]
    refine ⟨by simp, by rw [after_at _ _ _ f.1, NumM.get_text _ hn], ?_⟩
    unfold rguess
    rw [before_at _ _ _ f.1, after_at _ _ _ f.1, if_neg, NumM.get_text _ hn]
    · exact At.same ht.symm rfl rfl
    · intro hh
      exact f.2 (List.mem_of_getElem? hh.2)
  · have hp := reg_part ht hk
    have hf := reg_free hk
    rw [word_reg h ht]
    refine ⟨by simp, by rw [after_at _ _ _ hp, NumM.get_text _ hn], ?_⟩
    unfold rguess
    rw [before_at _ _ _ hp, after_at _ _ _ hp, NumM.get_text _ hn, (thread_text ht).1]
    rw [if_pos (by simp; omega)]
    refine At.same ?_ rfl rfl
    rcases ht with e | e | e <;> (simp [e])
theorem ratom_eq (s : L) : ratom s = atom s := by
  rcases atom_spec s with ⟨h1, h2, h3⟩ | ⟨h3, hno⟩
  · rw [h3]
    obtain ⟨g1, g2, g3⟩ := rguess_word h1 (guess_range s)
    rw [h2] at g1 g2 g3
    unfold ratom
    rw [if_pos g1, g3, g2, h2]; simp
  · rw [h3]
    unfold ratom
    split
    · split
      · rename_i h61 hh
        simp only [Bool.and_eq_true, decide_eq_true_eq] at hh
        exfalso
        cases hask : askedA (rguess s) with
        | true => exact hno _ hask (rguess_range s) hh.2
        | false =>
          have := word_wrong hask
          rw [hh.2] at this
          subst this
          simp at h61
      · rfl
    · rfl
end Go.Proofs.Ytaelfjphgdlbcaa.AtomM
namespace Go.Proofs.Ytaelfjphgdlbcaa.VM
open WordM (L)
open OpsM (Ln)
open AtomM (At)
set_option linter.unusedVariables false

structure Fl where
  name : L
  init : List (L × Int)
  ths : List (List Ln)
  cond : List At
  all : Bool

/-- The first place below n where g is not 0. -/
def firstAt (g : Nat → Int) : Nat → Option Nat
  | 0 => none
  | n + 1 => match firstAt g n with | some k => some k | none => if g n = 0 then none else some n
theorem firstAt_none {g : Nat → Int} : ∀ {n : Nat}, firstAt g n = none ↔ ∀ j, j < n → g j = 0
  | 0 => ⟨fun _ j h => absurd h (Nat.not_lt_zero j), fun _ => rfl⟩
  | n + 1 => by
    unfold firstAt
    cases e : firstAt g n with
    | some k => 
      refine ⟨fun h => (by cases h), fun h => ?_⟩
      have := (firstAt_none (g := g) (n := n)).2 (fun j hj => h j (by omega))
      rw [this] at e; cases e
    | none =>
      have hb := (firstAt_none (g := g) (n := n)).1 e
      by_cases hz : g n = 0
      · refine ⟨fun _ j hj => ?_, fun _ => by simp [hz]⟩
        by_cases ej : j = n
        · subst ej; exact hz
        · exact hb j (by omega)
      · exact ⟨fun h => by simp [hz] at h, fun h => absurd (h n (by omega)) hz⟩
theorem firstAt_hit {g : Nat → Int} {k : Nat} (hall : ∀ j, j < k → g j = 0) (h : g k ≠ 0) : ∀ {n : Nat}, k < n → firstAt g n = some k
  | 0, hk => absurd hk (Nat.not_lt_zero k)
  | n + 1, hk => by
    unfold firstAt
    by_cases e : k = n
    · subst e
      rw [firstAt_none.2 hall]; simp [h]
    · rw [firstAt_hit hall h (show k < n by omega)]
theorem firstAt_some {g : Nat → Int} : ∀ {n k : Nat}, firstAt g n = some k → k < n ∧ g k ≠ 0 ∧ ∀ j, j < k → g j = 0
  | 0, k, h => by cases h
  | n + 1, k, h => by
    unfold firstAt at h
    cases e : firstAt g n with
    | some m =>
      rw [e] at h
      obtain rfl := Option.some.inj h
      obtain ⟨a, b, c⟩ := firstAt_some e
      exact ⟨by omega, b, c⟩
    | none =>
      rw [e] at h
      by_cases hz : g n = 0
      · simp [hz] at h
      · simp [hz] at h
        subst h
        exact ⟨by omega, hz, firstAt_none.1 e⟩

/-- What is wrong with the k-th cell; 0, if nothing is. -/
def cellC (cs : List (L × Int)) (k : Nat) : Int :=
  if WordM.nameB (cs.getD k ([], 0)).1 = false then 22 else if 0 < k ∧ (cs.getD k ([], 0)).1 ≤ (cs.getD (k - 1) ([], 0)).1 then 21 else 0
def cellsC (F : Fl) : Int := match firstAt (cellC F.init) F.init.length with | some k => cellC F.init k | none => if F.ths.length < 1 ∨ 3 < F.ths.length then 5 else 0
def frameC (F : Fl) : Int := if WordM.nameB F.name = false then 22 else cellsC F
theorem cellsC_hit {F : Fl} {k : Nat} (hk : k < F.init.length) (hall : ∀ j, j < k → cellC F.init j = 0) (h : cellC F.init k ≠ 0) : cellsC F = cellC F.init k := by
  unfold cellsC; rw [firstAt_hit hall h hk]
theorem cellsC_end {F : Fl} (hall : ∀ j, j < F.init.length → cellC F.init j = 0) : cellsC F = if F.ths.length < 1 ∨ 3 < F.ths.length then 5 else 0 := by
  unfold cellsC; rw [firstAt_none.2 hall]
def lnz : Ln := ⟨0, [], [], [], 0⟩
/-- What is wrong with the k-th line of a thread. -/
def lnC (ls : List Ln) (k : Nat) : Int := lineC ls k (ls.getD k lnz)
def thC (ls : List Ln) : Option Nat := firstAt (lnC ls) ls.length
def thG (ts : List (List Ln)) (i : Nat) : Int := if (thC (ts.getD i [])).isSome then 1 else 0
/-- The first wrong line of the first wrong thread: which thread, which line, what is wrong. -/
def lineF (ts : List (List Ln)) : Option (Nat × Nat × Int) :=
  match firstAt (thG ts) ts.length with | none => none | some i => match thC (ts.getD i []) with | none => none | some k => some (i, k, lnC (ts.getD i []) k)
/-- The same as three numbers; 0, 0 and 0, if there is none. -/
def lineT (ts : List (List Ln)) : Int × Int × Int := match lineF ts with | none => (0, 0, 0) | some (i, k, c) => ((i : Int), (k : Int), c)
theorem thC_none {ls : List Ln} (h : ∀ j, j < ls.length → lnC ls j = 0) : thC ls = none := firstAt_none.2 h
theorem lineT_hit {ts : List (List Ln)} {i k : Nat} (hi : i < ts.length) (hall : ∀ j, j < i → thC (ts.getD j []) = none) (hk : k < (ts.getD i []).length) (hl : ∀ j, j < k → lnC (ts.getD i []) j = 0) (h : lnC (ts.getD i []) k ≠ 0) :
    lineT ts = ((i : Int), (k : Int), lnC (ts.getD i []) k) := by
  have h1 : thC (ts.getD i []) = some k := firstAt_hit hl h hk
  have h2 : firstAt (thG ts) ts.length = some i := firstAt_hit (fun j hj => by unfold thG; rw [hall j hj]; rfl) (by unfold thG; rw [h1]; simp) hi
  unfold lineT lineF
  rw [h2]; simp only [h1]
theorem lineT_end {ts : List (List Ln)} (hall : ∀ j, j < ts.length → thC (ts.getD j []) = none) : lineT ts = (0, 0, 0) := by
  have h2 : firstAt (thG ts) ts.length = none := firstAt_none.2 (fun j hj => by unfold thG; rw [hall j hj]; rfl)
  unfold lineT lineF
  rw [h2]
/-- What is wrong with the k-th atom. -/
def atC (n : Nat) (am : List At) (k : Nat) : Int :=
  if 6 ≤ k then 5 else if AtomM.askedA (am.getD k AtomM.zero) = false then 1 else if (n : Int) ≤ (am.getD k AtomM.zero).t then 22 else 0
def atomT (n : Nat) (am : List At) : Int × Int × Int := match firstAt (atC n am) am.length with | none => (0, 0, 0) | some k => ((n : Int), (k : Int), atC n am k)
theorem atomT_hit {n k : Nat} {am : List At} (hk : k < am.length) (hall : ∀ j, j < k → atC n am j = 0) (h : atC n am k ≠ 0) : atomT n am = ((n : Int), (k : Int), atC n am k) := by
  unfold atomT; rw [firstAt_hit hall h hk]
theorem atomT_end {n : Nat} {am : List At} (hall : ∀ j, j < am.length → atC n am j = 0) : atomT n am = (0, 0, 0) := by
  unfold atomT; rw [firstAt_none.2 hall]
/-- A name is put among others, that rise. -/
def ins (s : L) : List L → List L
  | [] => [s]
  | x :: r => if s ≤ x then (if s = x then x :: r else s :: x :: r) else x :: ins s r
def put (l : List L) (s : L) : List L := if s = [] then l else ins s l
/-- The names of locations in lines, in threads, in atoms; all, one behind the other. -/
def lnames (ls : List Ln) : List L := (ls.map (·.loc)).filter (fun s => !decide (s = []))
def tnames : List (List Ln) → List L
  | [] => []
  | ls :: r => lnames ls ++ tnames r
def anames (am : List At) : List L := (am.filter (fun a => a.t == -1)).map (·.nm)
def names (F : Fl) : List L := F.init.map (·.1) ++ (tnames F.ths ++ anames F.cond)
theorem lnames_take (ls : List Ln) (k : Nat) (h : k < ls.length) : lnames (ls.take (k + 1)) = lnames (ls.take k) ++ (if ls[k].loc = [] then [] else [ls[k].loc]) := by
  unfold lnames
  rw [List.take_succ_eq_append_getElem h, List.map_append, List.filter_append]
  by_cases e : ls[k].loc = [] <;> simp [e]
theorem tnames_take : ∀ (ts : List (List Ln)) (k : Nat) (h : k < ts.length), tnames (ts.take (k + 1)) = tnames (ts.take k) ++ lnames ts[k]
  | [], k, h => absurd h (Nat.not_lt_zero k)
  | ls :: r, 0, h => by simp [tnames]
  | ls :: r, k + 1, h => by
    have := tnames_take r k (by simpa using h)
    simp only [List.take_succ_cons, tnames, List.getElem_cons_succ, this, List.append_assoc]
theorem anames_take (am : List At) (k : Nat) (h : k < am.length) : anames (am.take (k + 1)) = anames (am.take k) ++ (if am[k].t = -1 then [am[k].nm] else []) := by
  unfold anames
  rw [List.take_succ_eq_append_getElem h, List.filter_append, List.map_append]
  by_cases e : am[k].t = -1 <;> simp [e]
theorem inames_take (cs : List (L × Int)) (k : Nat) (h : k < cs.length) : (cs.take (k + 1)).map (·.1) = (cs.take k).map (·.1) ++ [cs[k].1] := by
  rw [List.take_succ_eq_append_getElem h, List.map_append]; rfl
theorem lnames_le (ls : List Ln) : (lnames ls).length ≤ ls.length := Nat.le_trans (List.length_filter_le _ _) (by simp)
theorem tnames_le {M : Nat} : ∀ (ts : List (List Ln)), (∀ ls ∈ ts, ls.length ≤ M) → (tnames ts).length ≤ ts.length * M
  | [], _ => by simp [tnames]
  | ls :: r, h => by
    have h1 := tnames_le r (fun x hx => h x (by simp [hx]))
    have h2 := h ls (by simp)
    have h3 := lnames_le ls
    simp only [tnames, List.length_append, List.length_cons, Nat.succ_mul]
    omega
theorem anames_le (am : List At) : (anames am).length ≤ am.length := by unfold anames; rw [List.length_map]; exact List.length_filter_le _ _
def locs (F : Fl) : List L := (names F).foldl put []
def locC (F : Fl) : Int := if 4 < (locs F).length then 5 else 0
def chk (F : Fl) : Int × Int × Int :=
  if frameC F ≠ 0 then (-1, -1, frameC F) else if (lineT F.ths).2.2 ≠ 0 then lineT F.ths else if (atomT F.ths.length F.cond).2.2 ≠ 0 then atomT F.ths.length F.cond
  else if locC F ≠ 0 then (-1, -1, locC F) else (0, 0, 0)
def right (F : Fl) : Bool := (chk F).2.2 == 0
def locsR (F : Fl) : List L := if right F then locs F else []

theorem lnC_take (ls : List Ln) (k : Nat) (h : k < ls.length) : lnC ls k = lineC ls k ls[k] := by
  unfold lnC
  rw [List.getD_eq_getElem?_getD, List.getElem?_eq_getElem h]; rfl
end Go.Proofs.Ytaelfjphgdlbcaa.VM
namespace Go.Proofs.Ytaelfjphgdlbcaa
open Go.RowKit
set_option linter.unusedVariables false
set_option linter.unusedSimpArgs false
open WordM (L)

/-- An atom as a value. -/
def atv (t : Int) (nm : ByteArray) (n : Int) : Value := .agg #[.int .i64 t, .string nm, .int .i64 n]
def atw (a : AtomM.At) : Value := atv a.t ⟨a.nm.toArray⟩ a.n

theorem below_undrew {w w' : World} (h : Below w.drew.heap.size w.drew w') : Below w.heap.size w w' := (below_drewN (Below.refl w.heap.size w) 1).trans h
end Go.Proofs.Ytaelfjphgdlbcaa
namespace Go.Proofs.Ytaelfjphgdlbcaa
open Go.RowKit
set_option linter.unusedVariables false
set_option linter.unusedSimpArgs false
open WordM (L)

theorem kc {W w' : World} {g i : Nat} {v : Value} (hB : Below W.heap.size W w') (h : W.cell? ⟨g, i, none⟩ = some v) : w'.cell? ⟨g, i, none⟩ = some v := (hB.cell (p := ⟨g, i, none⟩) (lt_of_cell h)).trans h
def LnBox (w : World) (g : Nat) (op : Int) (r o b : ByteArray) (n : Int) : Prop :=
  w.cell? ⟨g, 0, none⟩ = some (.int .i64 op) ∧ w.cell? ⟨g, 1, none⟩ = some (.string r) ∧ w.cell? ⟨g, 2, none⟩ = some (.string o) ∧ w.cell? ⟨g, 3, none⟩ = some (.string b) ∧ w.cell? ⟨g, 4, none⟩ = some (.int .i64 n)
def AtBox (w : World) (g : Nat) (t : Int) (nm : ByteArray) (n : Int) : Prop :=
  w.cell? ⟨g, 0, none⟩ = some (.int .i64 t) ∧ w.cell? ⟨g, 1, none⟩ = some (.string nm) ∧ w.cell? ⟨g, 2, none⟩ = some (.int .i64 n)
theorem LnBox.below {w w' : World} {g : Nat} {op n : Int} {r o b : ByteArray} (h : LnBox w g op r o b n) (hB : Below w.heap.size w w') : LnBox w' g op r o b n := by
  obtain ⟨h0, h1, h2, h3, h4⟩ := h
  exact ⟨kc hB h0, kc hB h1, kc hB h2, kc hB h3, kc hB h4⟩
theorem AtBox.below {w w' : World} {g : Nat} {t n : Int} {nm : ByteArray} (h : AtBox w g t nm n) (hB : Below w.heap.size w w') : AtBox w' g t nm n := by
  obtain ⟨h0, h1, h2⟩ := h
  exact ⟨kc hB h0, kc hB h1, kc hB h2⟩
theorem LnBox.alloc {w : World} {g : Nat} {op n : Int} {r o b : ByteArray} (h : LnBox w g op r o b n) (x : Obj) : LnBox (w.alloc x) g op r o b n := h.below ((Below.refl _ _).alloc (Nat.le_refl _) _)
theorem AtBox.alloc {w : World} {g : Nat} {t n : Int} {nm : ByteArray} (h : AtBox w g t nm n) (x : Obj) : AtBox (w.alloc x) g t nm n := h.below ((Below.refl _ _).alloc (Nat.le_refl _) _)
theorem LnBox.new (w : World) (op n : Int) (r o b : ByteArray) (T : TypeId) : LnBox (w.alloc (.cells #[.int .i64 op, .string r, .string o, .string b, .int .i64 n] T)) w.heap.size op r o b n := by
  refine ⟨?_, ?_, ?_, ?_, ?_⟩ <;> (rw [World.cell?_alloc_at _ _ _ _ rfl]; rfl)
theorem AtBox.new (w : World) (t n : Int) (nm : ByteArray) (T : TypeId) : AtBox (w.alloc (.cells #[.int .i64 t, .string nm, .int .i64 n] T)) w.heap.size t nm n := by
  refine ⟨?_, ?_, ?_⟩ <;> (rw [World.cell?_alloc_at _ _ _ _ rfl]; rfl)

theorem below_al {w a : World} (h : Below w.heap.size w a) (o : Obj) : Below w.heap.size w (a.alloc o) := h.alloc h.size o
theorem LnBox.at {w : World} {g : Nat} (hg : g = w.heap.size) (op n : Int) (r o b : ByteArray) (T : TypeId) : LnBox (w.alloc (.cells #[.int .i64 op, .string r, .string o, .string b, .int .i64 n] T)) g op r o b n := by
  subst hg; exact LnBox.new w op n r o b T
theorem AtBox.at {w : World} {g : Nat} (hg : g = w.heap.size) (t n : Int) (nm : ByteArray) (T : TypeId) : AtBox (w.alloc (.cells #[.int .i64 t, .string nm, .int .i64 n] T)) g t nm n := by
  subst hg; exact AtBox.new w t n nm T
end Go.Proofs.Ytaelfjphgdlbcaa
namespace Go.Proofs.Ytaelfjphgdlbcaa
open Go.RowKit
set_option linter.unusedVariables false
set_option linter.unusedSimpArgs false
open WordM (L)
open VM (Fl)

/-- Two cells from f on of block b hold a location's cell. -/
def ClAt (w : World) (b f : Nat) (c : L × Int) : Prop :=
  w.cell? ⟨b, f, none⟩ = some (.string ⟨c.1.toArray⟩) ∧ w.cell? ⟨b, f + 1, none⟩ = some (.int .i64 c.2)
/-- Three cells from f on hold an atom. -/
def AmAt (w : World) (b f : Nat) (a : AtomM.At) : Prop :=
  w.cell? ⟨b, f, none⟩ = some (.int .i64 a.t) ∧ w.cell? ⟨b, f + 1, none⟩ = some (.string ⟨a.nm.toArray⟩) ∧ w.cell? ⟨b, f + 2, none⟩ = some (.int .i64 a.n)
/-- One cell holds a thread. -/
def ThAt (B : Nat) (w : World) (b f : Nat) (ls : List OpsM.Ln) : Prop := ∃ v, w.cell? ⟨b, f, none⟩ = some v ∧ Lns B w v ls
theorem ClAt.below {w w' : World} {B b f : Nat} {c : L × Int} (h : ClAt w b f c) (hb : Below B w w') (hlt : b < B) : ClAt w' b f c :=
  ⟨(hb.cell (p := ⟨b, f, none⟩) hlt).trans h.1, (hb.cell (p := ⟨b, f + 1, none⟩) hlt).trans h.2⟩
theorem AmAt.below {w w' : World} {B b f : Nat} {a : AtomM.At} (h : AmAt w b f a) (hb : Below B w w') (hlt : b < B) : AmAt w' b f a :=
  ⟨(hb.cell (p := ⟨b, f, none⟩) hlt).trans h.1, (hb.cell (p := ⟨b, f + 1, none⟩) hlt).trans h.2.1, (hb.cell (p := ⟨b, f + 2, none⟩) hlt).trans h.2.2⟩
theorem ThAt.below {w w' : World} {B b f : Nat} {ls : List OpsM.Ln} (h : ThAt B w b f ls) (hb : Below B w w') (hlt : b < B) : ThAt B w' b f ls := by
  obtain ⟨v, h1, h2⟩ := h
  exact ⟨v, (hb.cell (p := ⟨b, f, none⟩) hlt).trans h1, h2.below hb⟩
theorem ThAt.more {w : World} {B B' b f : Nat} {ls : List OpsM.Ln} (h : ThAt B w b f ls) (hb : B ≤ B') : ThAt B' w b f ls := by
  obtain ⟨v, h1, h2⟩ := h
  exact ⟨v, h1, h2.more hb⟩

def Cls (B : Nat) (w : World) (v : Value) (cs : List (L × Int)) : Prop :=
  ∃ A c, v = .slice A cs.length c ∧ cs.length ≤ c ∧ c ≤ maxLen ∧
    (0 < cs.length → ∃ b f, A = some ⟨b, f, none⟩ ∧ b < B ∧ ∀ j (h : j < cs.length), ClAt w b (f + j * 2) cs[j])
def Ths (B : Nat) (w : World) (v : Value) (ts : List (List OpsM.Ln)) : Prop :=
  ∃ A c, v = .slice A ts.length c ∧ ts.length ≤ c ∧ c ≤ maxLen ∧
    (0 < ts.length → ∃ b f, A = some ⟨b, f, none⟩ ∧ b < B ∧ ∀ j (h : j < ts.length), ThAt B w b (f + j) ts[j])
def Ams (B : Nat) (w : World) (v : Value) (am : List AtomM.At) : Prop :=
  ∃ A c, v = .slice A am.length c ∧ am.length ≤ c ∧ c ≤ maxLen ∧
    (0 < am.length → ∃ b f, A = some ⟨b, f, none⟩ ∧ b < B ∧ ∀ j (h : j < am.length), AmAt w b (f + j * 3) am[j])
section
variable {B B' : Nat} {w w' : World} {v : Value}
theorem Cls.below {cs : List (L × Int)} (h : Cls B w v cs) (hb : Below B w w') : Cls B w' v cs := by
  obtain ⟨A, c, e, h1, h2, h3⟩ := h
  refine ⟨A, c, e, h1, h2, fun k => ?_⟩
  obtain ⟨b, f, e2, h4, h5⟩ := h3 k
  exact ⟨b, f, e2, h4, fun j hj => (h5 j hj).below hb h4⟩
theorem Cls.more {cs : List (L × Int)} (h : Cls B w v cs) (hb : B ≤ B') : Cls B' w v cs := by
  obtain ⟨A, c, e, h1, h2, h3⟩ := h
  refine ⟨A, c, e, h1, h2, fun k => ?_⟩
  obtain ⟨b, f, e2, h4, h5⟩ := h3 k
  exact ⟨b, f, e2, by omega, h5⟩
theorem Ths.below {ts : List (List OpsM.Ln)} (h : Ths B w v ts) (hb : Below B w w') : Ths B w' v ts := by
  obtain ⟨A, c, e, h1, h2, h3⟩ := h
  refine ⟨A, c, e, h1, h2, fun k => ?_⟩
  obtain ⟨b, f, e2, h4, h5⟩ := h3 k
  exact ⟨b, f, e2, h4, fun j hj => (h5 j hj).below hb h4⟩
theorem Ths.more {ts : List (List OpsM.Ln)} (h : Ths B w v ts) (hb : B ≤ B') : Ths B' w v ts := by
  obtain ⟨A, c, e, h1, h2, h3⟩ := h
  refine ⟨A, c, e, h1, h2, fun k => ?_⟩
  obtain ⟨b, f, e2, h4, h5⟩ := h3 k
  exact ⟨b, f, e2, by omega, fun j hj => (h5 j hj).more hb⟩
theorem Ams.below {am : List AtomM.At} (h : Ams B w v am) (hb : Below B w w') : Ams B w' v am := by
  obtain ⟨A, c, e, h1, h2, h3⟩ := h
  refine ⟨A, c, e, h1, h2, fun k => ?_⟩
  obtain ⟨b, f, e2, h4, h5⟩ := h3 k
  exact ⟨b, f, e2, h4, fun j hj => (h5 j hj).below hb h4⟩
theorem Ams.more {am : List AtomM.At} (h : Ams B w v am) (hb : B ≤ B') : Ams B' w v am := by
  obtain ⟨A, c, e, h1, h2, h3⟩ := h
  refine ⟨A, c, e, h1, h2, fun k => ?_⟩
  obtain ⟨b, f, e2, h4, h5⟩ := h3 k
  exact ⟨b, f, e2, by omega, h5⟩
end
/-- A program as a value: its name, three slices, a bool. -/
def flv (nm : ByteArray) (vi vt vc : Value) (al : Bool) : Value := .agg #[.string nm, vi, vt, .bool al, vc]
/-- What the three slices hold. -/
def FlM (B : Nat) (w : World) (vi vt vc : Value) (F : Fl) : Prop := Cls B w vi F.init ∧ Ths B w vt F.ths ∧ Ams B w vc F.cond
theorem FlM.below {B : Nat} {w w' : World} {vi vt vc : Value} {F : Fl} (h : FlM B w vi vt vc F) (hb : Below B w w') : FlM B w' vi vt vc F := ⟨h.1.below hb, h.2.1.below hb, h.2.2.below hb⟩
theorem FlM.more {B B' : Nat} {w : World} {vi vt vc : Value} {F : Fl} (h : FlM B w vi vt vc F) (hb : B ≤ B') : FlM B' w vi vt vc F := ⟨h.1.more hb, h.2.1.more hb, h.2.2.more hb⟩
/-- The value v is the program F, its slices in blocks below B. -/
def FlV (B : Nat) (w : World) (v : Value) (F : Fl) : Prop := ∃ vi vt vc, v = flv ⟨F.name.toArray⟩ vi vt vc F.all ∧ FlM B w vi vt vc F
theorem FlV.below {B : Nat} {w w' : World} {v : Value} {F : Fl} (h : FlV B w v F) (hb : Below B w w') : FlV B w' v F := by
  obtain ⟨a, b, c, e, h⟩ := h; exact ⟨a, b, c, e, h.below hb⟩
theorem FlV.more {B B' : Nat} {w : World} {v : Value} {F : Fl} (h : FlV B w v F) (hb : B ≤ B') : FlV B' w v F := by
  obtain ⟨a, b, c, e, h⟩ := h; exact ⟨a, b, c, e, h.more hb⟩
/-- A program's box: five cells of a block. -/
def FlBox (w : World) (g : Nat) (nm : ByteArray) (vi vt vc : Value) (al : Bool) : Prop :=
  w.cell? ⟨g, 0, none⟩ = some (.string nm) ∧ w.cell? ⟨g, 1, none⟩ = some vi ∧ w.cell? ⟨g, 2, none⟩ = some vt ∧ w.cell? ⟨g, 3, none⟩ = some (.bool al) ∧ w.cell? ⟨g, 4, none⟩ = some vc
theorem FlBox.below {w w' : World} {g : Nat} {nm : ByteArray} {vi vt vc : Value} {al : Bool} (h : FlBox w g nm vi vt vc al) (hB : Below w.heap.size w w') : FlBox w' g nm vi vt vc al := by
  obtain ⟨h0, h1, h2, h3, h4⟩ := h
  exact ⟨kc hB h0, kc hB h1, kc hB h2, kc hB h3, kc hB h4⟩
theorem FlBox.at {w : World} {g : Nat} (hg : g = w.heap.size) (nm : ByteArray) (vi vt vc : Value) (al : Bool) (T : TypeId) : FlBox (w.alloc (.cells #[.string nm, vi, vt, .bool al, vc] T)) g nm vi vt vc al := by
  subst hg
  refine ⟨?_, ?_, ?_, ?_, ?_⟩ <;> (rw [World.cell?_alloc_at _ _ _ _ rfl]; rfl)
/-- What a program must be for a machine to hold it. -/
structure FlOk (F : Fl) : Prop where
  name : F.name.length ≤ 100000
  init : ∀ c ∈ F.init, c.1.length ≤ 100000
  ths : ∀ ls ∈ F.ths, ls.length ≤ 100000 ∧ ∀ l ∈ ls, l.reg.length ≤ 100000 ∧ l.loc.length ≤ 100000 ∧ l.label.length ≤ 100000
  cond : ∀ a ∈ F.cond, a.nm.length ≤ 100000 ∧ NumM.inR a.t
  nums : F.init.length ≤ 100000 ∧ F.ths.length ≤ 100000 ∧ F.cond.length ≤ 100000
end Go.Proofs.Ytaelfjphgdlbcaa
namespace Go.Proofs.Ytaelfjphgdlbcaa.CodM
open WordM (L)
open OpsM (Ln)
open VM (Fl)
set_option linter.unusedVariables false
set_option linter.unusedSimpArgs false

/-- A step. -/
structure St where
  op : Int
  reg : Int
  loc : Int
  n : Int
  to : Int
theorem St.same {a b : St} (h0 : a.op = b.op) (h1 : a.reg = b.reg) (h2 : a.loc = b.loc) (h3 : a.n = b.n) (h4 : a.to = b.to) : a = b := by
  cases a; cases b; simp_all
/-- A code. -/
structure Pg where
  init : List Int
  ths : List (List St)
def hasS (x : Ln) : Bool := !(x.op == 11)
def cnt (ls : List Ln) : Nat := (ls.filter hasS).length
theorem cnt_take (ls : List Ln) (k : Nat) (h : k < ls.length) : cnt (ls.take (k + 1)) = cnt (ls.take k) + if hasS ls[k] then 1 else 0 := by
  unfold cnt
  rw [List.take_succ_eq_append_getElem h, List.filter_append, List.length_append]
  cases c : hasS ls[k]
  · rw [List.filter_cons_of_neg (by simp [c])]; rfl
  · rw [List.filter_cons_of_pos c]; rfl
theorem cnt_le (ls : List Ln) (k : Nat) : cnt (ls.take k) ≤ k := Nat.le_trans (List.length_filter_le _ _) (List.length_take_le _ _)
theorem cnt_mono (ls : List Ln) {i k : Nat} (h : i ≤ k) : cnt (ls.take i) ≤ cnt (ls.take k) := by
  have : ls.take i = (ls.take k).take i := by rw [List.take_take, Nat.min_eq_left h]
  rw [this]
  exact ((List.take_sublist i (ls.take k)).filter hasS).length_le
/-- The first place at which p holds; -1, if it does nowhere. -/
def posI {A : Type} (p : A → Bool) (l : List A) : Int := match l.findIdx? p with | some k => (k : Int) | none => -1
def pos0 {A : Type} (p : A → Bool) (l : List A) : Nat := (l.findIdx? p).getD 0
theorem posI_hit {A : Type} {p : A → Bool} {l : List A} {k : Nat} (hk : k < l.length) (hall : ∀ j (h : j < l.length), j < k → p l[j] = false) (h : p l[k] = true) : posI p l = (k : Int) := by
  have : l.findIdx? p = some k := by
    rw [List.findIdx?_eq_some_iff_getElem]
    exact ⟨hk, h, fun j hj => by simp [hall j (by omega) hj]⟩
  unfold posI; rw [this]
theorem posI_none {A : Type} {p : A → Bool} {l : List A} (hall : ∀ j (h : j < l.length), p l[j] = false) : posI p l = -1 := by
  have : l.findIdx? p = none := by
    rw [List.findIdx?_eq_none_iff]
    intro x hx
    obtain ⟨j, hj, rfl⟩ := List.mem_iff_getElem.1 hx
    exact hall j hj
  unfold posI; rw [this]
theorem pos0_hit {A : Type} {p : A → Bool} {l : List A} {k : Nat} (hk : k < l.length) (hall : ∀ j (h : j < l.length), j < k → p l[j] = false) (h : p l[k] = true) : pos0 p l = k := by
  have : l.findIdx? p = some k := by
    rw [List.findIdx?_eq_some_iff_getElem]
    exact ⟨hk, h, fun j hj => by simp [hall j (by omega) hj]⟩
  unfold pos0; rw [this]; rfl
theorem pos0_none {A : Type} {p : A → Bool} {l : List A} (hall : ∀ j (h : j < l.length), p l[j] = false) : pos0 p l = 0 := by
  have : l.findIdx? p = none := by
    rw [List.findIdx?_eq_none_iff]
    intro x hx
    obtain ⟨j, hj, rfl⟩ := List.mem_iff_getElem.1 hx
    exact hall j hj
  unfold pos0; rw [this]; rfl
theorem pos_max {A : Type} (p : A → Bool) (l : List A) : max (posI p l) 0 = (pos0 p l : Int) := by
  unfold posI pos0
  cases l.findIdx? p with
  | none => rfl
  | some k => simp
theorem pos0_le {A : Type} (p : A → Bool) (l : List A) : pos0 p l ≤ l.length := by
  unfold pos0
  cases e : l.findIdx? p with
  | none => simp
  | some k =>
    rw [List.findIdx?_eq_some_iff_getElem] at e
    simp; exact Nat.le_of_lt e.1
theorem posI_bd {A : Type} (p : A → Bool) (l : List A) : -1 ≤ posI p l ∧ posI p l ≤ l.length := by
  unfold posI
  cases e : l.findIdx? p with
  | none =>
    show (-1 : Int) ≤ -1 ∧ (-1 : Int) ≤ l.length
    omega
  | some k =>
    rw [List.findIdx?_eq_some_iff_getElem] at e
    obtain ⟨h, _⟩ := e
    show -1 ≤ (k : Int) ∧ (k : Int) ≤ l.length
    omega
theorem pos0_at {A : Type} {p : A → Bool} {l : List A} {k : Nat} (hk : k < l.length) (h : p l[k] = true) : ∃ h : pos0 p l < l.length, p l[pos0 p l] = true ∧ pos0 p l ≤ k := by
  unfold pos0
  cases e : l.findIdx? p with
  | none =>
    rw [List.findIdx?_eq_none_iff] at e
    exact absurd (e _ (List.getElem_mem hk)) (by simp [h])
  | some j =>
    rw [List.findIdx?_eq_some_iff_getElem] at e
    obtain ⟨h1, h2, h3⟩ := e
    refine ⟨h1, h2, ?_⟩
    simp only [Option.getD_some]
    by_cases c : j ≤ k
    · exact c
    · exact absurd h (h3 k (by omega))
/-- Is x a label of that name? -/
def isLab (s : L) (x : Ln) : Bool := !(hasS x) && decide (x.label = s)
def regI (r : L) : Int := max (WordM.regNo r) 0
def locN (locs : List L) (s : L) : Nat := pos0 (fun x => decide (x = s)) locs
def toN (ls : List Ln) (s : L) : Nat := cnt (ls.take (pos0 (isLab s) ls))
def stp (ls : List Ln) (locs : List L) (x : Ln) : St := ⟨x.op, regI x.reg, (locN locs x.loc : Int), x.n, (toN ls x.label : Int)⟩
def thrS (locs : List L) (ls : List Ln) : List St := (ls.filter hasS).map (stp ls locs)
/-- What the location has at first. -/
def fstN (cs : List (L × Int)) (s : L) : Int := match cs.find? (fun c => decide (c.1 = s)) with | some c => c.2 | none => 0
theorem fstN_hit {cs : List (L × Int)} {s : L} {k : Nat} (hk : k < cs.length) (hall : ∀ j (h : j < cs.length), j < k → ¬ cs[j].1 = s) (h : cs[k].1 = s) : fstN cs s = cs[k].2 := by
  have : cs.find? (fun c => decide (c.1 = s)) = some cs[k] := by
    rw [List.find?_eq_some_iff_getElem]
    exact ⟨by simp [h], k, hk, rfl, fun j hj => by simp [hall j (by omega) hj]⟩
  unfold fstN; rw [this]
theorem fstN_none {cs : List (L × Int)} {s : L} (hall : ∀ j (h : j < cs.length), ¬ cs[j].1 = s) : fstN cs s = 0 := by
  have : cs.find? (fun c => decide (c.1 = s)) = none := by
    rw [List.find?_eq_none]
    intro x hx
    obtain ⟨j, hj, rfl⟩ := List.mem_iff_getElem.1 hx
    simp [hall j hj]
  unfold fstN; rw [this]
def codP (F : Fl) : Pg := if VM.right F then ⟨(VM.locsR F).map (fstN F.init), F.ths.map (thrS (VM.locsR F))⟩ else ⟨[], []⟩
def codE (F : Fl) : Int := if VM.right F then 0 else 1
/-! Lines and steps. -/
def atI (F : Fl) (t k : Int) : Int := if 0 ≤ t ∧ t < F.ths.length ∧ 0 ≤ k ∧ k ≤ (F.ths.getD t.toNat []).length then (cnt ((F.ths.getD t.toNat []).take k.toNat) : Int) else -1
/-- Is the k-th line the one of step a? -/
def isLn (ls : List Ln) (a : Int) (k : Nat) : Bool := match ls[k]? with | some x => hasS x && decide ((cnt (ls.take k) : Int) = a) | none => false
def lnP (ls : List Ln) (a : Int) : Int := match (List.range ls.length).find? (isLn ls a) with | some k => (k : Int) | none => -1
theorem lnP_hit {ls : List Ln} {a : Int} {k : Nat} (hk : k < ls.length) (h1 : hasS ls[k] = true) (h2 : (cnt (ls.take k) : Int) = a) : lnP ls a = (k : Int) := by
  have he : isLn ls a k = true := by unfold isLn; rw [List.getElem?_eq_getElem hk]; simp [h1, h2]
  have : (List.range ls.length).find? (isLn ls a) = some k := by
    rw [List.find?_eq_some_iff_getElem]
    refine ⟨he, k, by simpa using hk, by simp, fun j hj => ?_⟩
    have hjl : j < ls.length := by omega
    simp only [List.getElem_range]
    unfold isLn
    rw [List.getElem?_eq_getElem hjl]
    cases c : hasS ls[j]
    · simp [c]
    · have e1 := cnt_take ls j hjl
      rw [c] at e1
      have e2 := cnt_mono ls (show j + 1 ≤ k by omega)
      have : ¬ (cnt (ls.take j) : Int) = a := by simp at e1; omega
      simp [this]
  unfold lnP; rw [this]
theorem lnP_none {ls : List Ln} {a : Int} (h : ∀ k (hk : k < ls.length), hasS ls[k] = true → ¬ (cnt (ls.take k) : Int) = a) : lnP ls a = -1 := by
  have : (List.range ls.length).find? (isLn ls a) = none := by
    rw [List.find?_eq_none]
    intro x hx
    have hx := List.mem_range.1 hx
    unfold isLn
    rw [List.getElem?_eq_getElem hx]
    cases c : hasS ls[x]
    · simp [c]
    · simp [h x hx c]
  unfold lnP; rw [this]
theorem lnP_over {ls : List Ln} {a : Int} (h : a < 0 ∨ (cnt ls : Int) ≤ a) : lnP ls a = -1 := by
  refine lnP_none fun k hk c e => ?_
  have e1 := cnt_take ls k hk
  rw [c] at e1
  have e2 := cnt_mono ls (show k + 1 ≤ ls.length by omega)
  rw [List.take_length] at e2
  simp at e1
  omega
def lineI (F : Fl) (t a : Int) : Int := if 0 ≤ t ∧ t < F.ths.length then lnP (F.ths.getD t.toNat []) a else -1
/-! Right codes. -/
def hReg (o : Int) : Bool := decide (o = 1) || (decide (o = 2) || (decide (o = 3) || (decide (o = 5) || decide (o = 7))))
def hLoc (o : Int) : Bool := decide (o = 2) || (decide (o = 3) || (decide (o = 4) || decide (o = 5)))
def hNum (o : Int) : Bool := decide (o = 1) || (decide (o = 4) || decide (o = 7))
def hTo (o : Int) : Bool := decide (8 ≤ o)
def zOr (has : Bool) (n least most : Int) : Bool := if has then decide (least ≤ n) && decide (n ≤ most) else decide (n = 0)
def rightS (many : Nat) (len : Nat) (at' : Nat) (s : St) : Bool :=
  (decide (1 ≤ s.op) && decide (s.op ≤ 10)) && (zOr (hReg s.op) s.reg 0 3 && (zOr (hLoc s.op) s.loc 0 ((many : Int) - 1) && ((hNum s.op || decide (s.n = 0)) && zOr (hTo s.op) s.to ((at' : Int) + 1) (len : Int))))
def rightT (many : Nat) (ss : List St) : Bool := decide (ss.length ≤ 80) && (List.range ss.length).all fun k => match ss[k]? with | some s => rightS many ss.length k s | none => false
def rightP (p : Pg) : Bool := decide (p.init.length ≤ 4) && (decide (1 ≤ p.ths.length) && decide (p.ths.length ≤ 3)) && p.ths.all (rightT p.init.length)
theorem rightT_all {many : Nat} {ss : List St} (h : ss.length ≤ 80) (hall : ∀ k (hk : k < ss.length), rightS many ss.length k ss[k] = true) : rightT many ss = true := by
  unfold rightT
  simp only [Bool.and_eq_true, decide_eq_true_eq, List.all_eq_true, List.mem_range]
  exact ⟨h, fun k hk => by rw [List.getElem?_eq_getElem hk]; exact hall k hk⟩
theorem rightT_many {many : Nat} {ss : List St} (h : 80 < ss.length) : rightT many ss = false := by
  unfold rightT; simp; intro h2; omega
theorem rightT_no {many : Nat} {ss : List St} {k : Nat} (hk : k < ss.length) (h : rightS many ss.length k ss[k] = false) : rightT many ss = false := by
  unfold rightT
  rw [Bool.and_eq_false_iff]; right
  rw [List.all_eq_false]
  exact ⟨k, List.mem_range.2 hk, by rw [List.getElem?_eq_getElem hk]; simp [h]⟩
theorem rightT_at {many : Nat} {ss : List St} (h : rightT many ss = true) : ss.length ≤ 80 ∧ ∀ k (hk : k < ss.length), rightS many ss.length k ss[k] = true := by
  unfold rightT at h
  simp only [Bool.and_eq_true, decide_eq_true_eq, List.all_eq_true, List.mem_range] at h
  refine ⟨h.1, fun k hk => ?_⟩
  have := h.2 k hk
  rwa [List.getElem?_eq_getElem hk] at this
end Go.Proofs.Ytaelfjphgdlbcaa.CodM
