/-
  A STATE'S NUMBERS, as mathematics: what they are, and what is got from numbers. (Ahead of layer 12.)
  TAKING FROM A LIST OF NUMBERS, as mathematics, for readers that keep an error: what is taken, and what is left, or that it failed.
  enc.reader: a number, whether a truth, a write; the first error is kept.
  enc.many: a count, and so many items; nothing, once there is an error.
  enc.reader: a thread; enc.many at threads; a state; the end.
  enc.reader: a state, the end; enc.Of.
-/
import Derived.Test.YtmpjcfehabnhgaaDoorK02
import Derived.Test.YtmpjcfehabnhgaaDoorEnE
import Derived.Deep.DeepCutAuto
set_option linter.unusedVariables false
set_option linter.unusedSimpArgs false
namespace Go.Proofs.YtmpjcfehabnhgaaDoor
set_option linter.unusedVariables false
set_option linter.unusedSimpArgs false
namespace EnM
open ScM (Th Sta)
open BfM (Wr)

/-- A count, and so many numbers. -/
def rowN (l : List Int) : List Int := (l.length : Int) :: l
/-- A buffer's numbers. -/
def wrN (b : List Wr) : List Int := b.flatMap fun w => [w.loc, w.n]
/-- A thread's. -/
def thN (t : Th) : List Int := t.at' :: (if t.eq then 1 else 0) :: (rowN t.regs ++ ((t.buf.length : Int) :: wrN t.buf))
/-- A state's. -/
def numsS (s : Sta) : List Int := rowN s.mem ++ ((s.ths.length : Int) :: s.ths.flatMap thN)

/-- A row is taken. -/
def tkRow : List Int → Option (List Int × List Int)
  | [] => none
  | n :: l => if 0 ≤ n ∧ n.toNat ≤ l.length then some (l.take n.toNat, l.drop n.toNat) else none
/-- So many writes are taken. -/
def tkWrs : Nat → List Int → Option (List Wr × List Int)
  | 0, l => some ([], l)
  | k + 1, a :: b :: l => match tkWrs k l with
    | some (q, r) => some (⟨a, b⟩ :: q, r)
    | none => none
  | _ + 1, _ => none
/-- A count of writes, and these. -/
def tkBuf : List Int → Option (List Wr × List Int)
  | [] => none
  | n :: l => if 0 ≤ n ∧ n.toNat ≤ l.length then tkWrs n.toNat l else none
/-- A thread is taken. -/
def tkTh : List Int → Option (Th × List Int)
  | a :: e :: l => if e = 0 ∨ e = 1 then
      match tkRow l with
      | some (rg, l1) => match tkBuf l1 with
        | some (b, r) => some (⟨a, rg, decide (e = 1), b⟩, r)
        | none => none
      | none => none
    else none
  | _ => none
/-- So many threads. -/
def tkThs : Nat → List Int → Option (List Th × List Int)
  | 0, l => some ([], l)
  | k + 1, l => match tkTh l with
    | some (t, l1) => match tkThs k l1 with
      | some (q, r) => some (t :: q, r)
      | none => none
    | none => none
/-- A state. -/
def tkS (l : List Int) : Option (Sta × List Int) :=
  match tkRow l with
  | some (m, l1) => match l1 with
    | n :: l2 => if 0 ≤ n ∧ n.toNat ≤ l2.length then
        match tkThs n.toNat l2 with
        | some (ts, r) => some (⟨m, ts⟩, r)
        | none => none
      else none
    | [] => none
  | none => none
/-- The state whose numbers these are. -/
def ofN (l : List Int) : Option Sta := match tkS l with
  | some (s, []) => some s
  | _ => none

theorem tkRow_ok (l r : List Int) : tkRow (rowN l ++ r) = some (l, r) := by
  simp [tkRow, rowN]
theorem tkRow_inv {x l r : List Int} (h : tkRow x = some (l, r)) : x = rowN l ++ r := by
  cases x with
  | nil => cases h
  | cons n y =>
    simp only [tkRow] at h
    split at h
    · rename_i hn
      injection h with h
      injection h with h1 h2
      subst h1 h2
      simp only [rowN, List.length_take, List.cons_append, List.take_append_drop, Nat.min_eq_left hn.2]
      rw [Int.toNat_of_nonneg hn.1]
    · cases h
theorem wrN_len (b : List Wr) : (wrN b).length = 2 * b.length := by
  induction b with
  | nil => rfl
  | cons w b ih => simp only [wrN, List.flatMap_cons, List.length_append, List.length_cons, List.length_nil] at ih ⊢; omega
theorem tkWrs_ok (b : List Wr) (r : List Int) : tkWrs b.length (wrN b ++ r) = some (b, r) := by
  induction b with
  | nil => rfl
  | cons w b ih =>
    show tkWrs (b.length + 1) (w.loc :: w.n :: (wrN b ++ r)) = _
    simp only [tkWrs, ih]
theorem tkWrs_inv {k : Nat} {x : List Int} {b : List Wr} {r : List Int} (h : tkWrs k x = some (b, r)) : b.length = k ∧ x = wrN b ++ r := by
  induction k generalizing x b r with
  | zero =>
    simp only [tkWrs] at h
    injection h with h
    injection h with h1 h2
    subst h1 h2
    exact ⟨rfl, rfl⟩
  | succ k ih =>
    match x, h with
    | [], h => cases h
    | [_], h => cases h
    | a :: c :: l, h =>
      simp only [tkWrs] at h
      split at h
      · rename_i q r' hq
        injection h with h
        injection h with h1 h2
        subst h1 h2
        obtain ⟨h3, h4⟩ := ih hq
        exact ⟨by rw [List.length_cons, h3], by rw [h4]; rfl⟩
      · cases h
theorem tkBuf_ok (b : List Wr) (r : List Int) : tkBuf ((b.length : Int) :: wrN b ++ r) = some (b, r) := by
  have : b.length ≤ (wrN b ++ r).length := by rw [List.length_append, wrN_len]; omega
  simp only [tkBuf, List.cons_append, Int.toNat_natCast]
  rw [if_pos ⟨Int.natCast_nonneg _, this⟩, tkWrs_ok]
theorem tkBuf_inv {x : List Int} {b : List Wr} {r : List Int} (h : tkBuf x = some (b, r)) : x = (b.length : Int) :: wrN b ++ r := by
  cases x with
  | nil => cases h
  | cons n y =>
    simp only [tkBuf] at h
    split at h
    · rename_i hn
      obtain ⟨h1, h2⟩ := tkWrs_inv h
      rw [h2, h1, Int.toNat_of_nonneg hn.1]; rfl
    · cases h
theorem tkTh_ok (t : Th) (r : List Int) : tkTh (thN t ++ r) = some (t, r) := by
  obtain ⟨a, rg, e, b⟩ := t
  have h1 : tkRow (rowN rg ++ ((b.length : Int) :: wrN b) ++ r) = some (rg, ((b.length : Int) :: wrN b) ++ r) := by rw [List.append_assoc]; exact tkRow_ok _ _
  have h2 : thN ⟨a, rg, e, b⟩ ++ r = a :: (if e then 1 else 0) :: (rowN rg ++ ((b.length : Int) :: wrN b) ++ r) := rfl
  have h3 := tkBuf_ok b r
  rw [h2]
  simp only [tkTh, h1, h3]
  cases e <;> simp
theorem tkTh_inv {x : List Int} {t : Th} {r : List Int} (h : tkTh x = some (t, r)) : x = thN t ++ r := by
  match x, h with
  | [], h => cases h
  | [_], h => cases h
  | a :: e :: l, h =>
    simp only [tkTh] at h
    split at h
    · rename_i he
      split at h
      · rename_i rg l1 hr
        split at h
        · rename_i b r' hb
          injection h with h
          injection h with h1 h2
          subst h1 h2
          rw [tkRow_inv hr, tkBuf_inv hb]
          rcases he with rfl | rfl <;> simp [thN]
        · cases h
      · cases h
    · cases h
theorem thN_pos (t : Th) : 1 ≤ (thN t).length := by simp [thN]
theorem ths_len (l : List Th) : l.length ≤ (l.flatMap thN).length := by
  induction l with
  | nil => simp
  | cons t l ih => have := thN_pos t; rw [List.flatMap_cons, List.length_append, List.length_cons]; omega
theorem tkThs_ok (l : List Th) (r : List Int) : tkThs l.length (l.flatMap thN ++ r) = some (l, r) := by
  induction l with
  | nil => rfl
  | cons t l ih =>
    show tkThs (l.length + 1) _ = _
    simp only [tkThs, List.flatMap_cons, List.append_assoc, tkTh_ok, ih]
theorem tkThs_inv {k : Nat} {x : List Int} {l : List Th} {r : List Int} (h : tkThs k x = some (l, r)) : l.length = k ∧ x = l.flatMap thN ++ r := by
  induction k generalizing x l r with
  | zero =>
    simp only [tkThs] at h
    injection h with h
    injection h with h1 h2
    subst h1 h2
    exact ⟨rfl, rfl⟩
  | succ k ih =>
    simp only [tkThs] at h
    split at h
    · rename_i t l1 ht
      split at h
      · rename_i q r' hq
        injection h with h
        injection h with h1 h2
        subst h1 h2
        obtain ⟨h3, h4⟩ := ih hq
        exact ⟨by rw [List.length_cons, h3], by rw [tkTh_inv ht, h4, List.flatMap_cons, List.append_assoc]⟩
      · cases h
    · cases h
theorem tkS_ok (s : Sta) (r : List Int) : tkS (numsS s ++ r) = some (s, r) := by
  obtain ⟨m, ts⟩ := s
  have h1 : tkRow (numsS ⟨m, ts⟩ ++ r) = some (m, ((ts.length : Int) :: ts.flatMap thN) ++ r) := by
    unfold numsS; rw [List.append_assoc]; exact tkRow_ok _ _
  have h2 : ts.length ≤ (ts.flatMap thN ++ r).length := by have := ths_len ts; rw [List.length_append]; omega
  simp only [tkS, h1, List.cons_append, Int.toNat_natCast]
  rw [if_pos ⟨Int.natCast_nonneg _, h2⟩, tkThs_ok]
theorem tkS_inv {x : List Int} {s : Sta} {r : List Int} (h : tkS x = some (s, r)) : x = numsS s ++ r := by
  unfold tkS at h
  split at h
  · rename_i m l1 hm
    split at h
    · rename_i n l2
      split at h
      · rename_i hn
        split at h
        · rename_i ts r' ht
          injection h with h
          injection h with h1 h2
          subst h1 h2
          obtain ⟨h3, h4⟩ := tkThs_inv ht
          rw [tkRow_inv hm, h4]
          simp only [numsS, h3, List.append_assoc, List.cons_append]
          rw [Int.toNat_of_nonneg hn.1]
        · cases h
      · cases h
    · cases h
  · cases h
theorem ofN_ok (s : Sta) : ofN (numsS s) = some s := by
  have := tkS_ok s []
  rw [List.append_nil] at this
  unfold ofN; rw [this]
theorem ofN_inv {l : List Int} {s : Sta} (h : ofN l = some s) : l = numsS s := by
  unfold ofN at h
  split at h
  · rename_i s' hs
    injection h with h
    subst h
    have := tkS_inv hs
    rwa [List.append_nil] at this
  · cases h
/-- Unlike states have unlike numbers. -/
theorem numsS_inj {s t : Sta} (h : numsS s = numsS t) : s = t := by
  have := ofN_ok s
  rw [h, ofN_ok t] at this
  exact (Option.some.inj this).symm
/-- A state's numbers with some behind are none's. -/
theorem ofN_more (s : Sta) {m : List Int} (hm : m ≠ []) : ofN (numsS s ++ m) = none := by
  unfold ofN; rw [tkS_ok]
  cases m with
  | nil => exact absurd rfl hm
  | cons a m => rfl
/-- With some taken off the end, too. -/
theorem ofN_less (s : Sta) {k : Nat} (hk : k < (numsS s).length) : ofN ((numsS s).take k) = none := by
  cases h : ofN ((numsS s).take k) with
  | none => rfl
  | some t =>
    exfalso
    have h1 := ofN_inv h
    have h2 : numsS s = numsS t ++ (numsS s).drop k := by rw [← h1, List.take_append_drop]
    have h3 := tkS_ok t ((numsS s).drop k)
    rw [← h2] at h3
    have h4 := tkS_ok s []
    rw [List.append_nil, h3] at h4
    injection h4 with h4
    injection h4 with h5 h6
    have := congrArg List.length h6
    rw [List.length_drop] at this
    simp at this
    omega
/-- There are at least two. -/
theorem numsS_two (s : Sta) : 2 ≤ (numsS s).length := by
  simp only [numsS, rowN, List.length_append, List.length_cons]; omega
end EnM
end Go.Proofs.YtmpjcfehabnhgaaDoor
namespace Go.Proofs.YtmpjcfehabnhgaaDoor
set_option linter.unusedVariables false
set_option linter.unusedSimpArgs false
namespace EnM
open ScM (Th Sta)
open BfM (Wr)

abbrev Tak (α : Type) := List Int → Option (α × List Int)
/-- From the state st (what is left; none: it failed) a is taken, and st' is left; behind a failure a is whatever it is. -/
def Tk {α : Type} (tk : Tak α) (st : Option (List Int)) (a : α) (st' : Option (List Int)) : Prop :=
  (∃ l r, st = some l ∧ tk l = some (a, r) ∧ st' = some r) ∨ ((st = none ∨ ∃ l, st = some l ∧ tk l = none) ∧ st' = none)
def tkN : Tak Int | [] => none | n :: r => some (n, r)
def tkB : Tak Bool | [] => none | n :: r => if n = 0 ∨ n = 1 then some (decide (n = 1), r) else none
def tkW : Tak Wr | a :: b :: r => some (⟨a, b⟩, r) | _ => none
/-- One behind the other. -/
def tkMany {α : Type} (tk : Tak α) : Nat → Tak (List α)
  | 0, l => some ([], l)
  | k + 1, l => match tkMany tk k l with
    | some (xs, r) => match tk r with
      | some (x, r') => some (xs ++ [x], r')
      | none => none
    | none => none
/-- A count, and so many. -/
def tkCnt {α : Type} (tk : Tak α) : Tak (List α)
  | [] => none
  | n :: l => if 0 ≤ n ∧ n.toNat ≤ l.length then tkMany tk n.toNat l else none
theorem tkMany_none {α : Type} {tk : Tak α} {k n : Nat} {l : List Int} (h : tkMany tk k l = none) (hk : k ≤ n) : tkMany tk n l = none := by
  obtain ⟨d, rfl⟩ : ∃ d, n = k + d := ⟨n - k, by omega⟩
  clear hk
  induction d with
  | zero => exact h
  | succ d ih => rw [show k + (d + 1) = (k + d) + 1 by omega]; simp only [tkMany, ih]
theorem Tk.fail {α : Type} {tk : Tak α} (a b : α) {st st' : Option (List Int)} (h : Tk tk st a st') (e : st' = none) : Tk tk st b none := by
  rcases h with ⟨l, r, h1, h2, h3⟩ | ⟨h1, h2⟩
  · rw [h3] at e; cases e
  · exact .inr ⟨h1, rfl⟩
theorem Tk.bad {α : Type} {tk : Tak α} (a : α) : Tk tk none a none := .inr ⟨.inl rfl, rfl⟩
theorem Tk.cut {α : Type} {tk : Tak α} (a : α) {l : List Int} (h : tk l = none) : Tk tk (some l) a none := .inr ⟨.inr ⟨l, rfl, h⟩, rfl⟩
theorem Tk.ok {α : Type} {tk : Tak α} {a : α} {l r : List Int} (h : tk l = some (a, r)) : Tk tk (some l) a (some r) := .inl ⟨l, r, rfl, h, rfl⟩
theorem Tk.zero {α : Type} (tk : Tak α) (l : List Int) : Tk (tkMany tk 0) (some l) [] (some l) := .inl ⟨l, l, rfl, rfl, rfl⟩
/-- One more is taken. -/
theorem Tk.snoc {α : Type} {tk : Tak α} {k : Nat} {l : List Int} {xs : List α} {x : α} {st st' : Option (List Int)} (h : Tk (tkMany tk k) (some l) xs st) (h2 : Tk tk st x st') : Tk (tkMany tk (k + 1)) (some l) (xs ++ [x]) st' := by
  rcases h with ⟨l', r, e1, e2, e3⟩ | ⟨e1, e2⟩
  · injection e1 with e1
    subst e1 e3
    rcases h2 with ⟨l2, r2, d1, d2, d3⟩ | ⟨d1, d2⟩
    · injection d1 with d1
      subst d1
      exact .inl ⟨l, r2, rfl, by simp only [tkMany, e2, d2], d3⟩
    · rcases d1 with d1 | ⟨l2, d1, d3⟩
      · cases d1
      · injection d1 with d1
        subst d1
        exact .inr ⟨.inr ⟨l, rfl, by simp only [tkMany, e2, d3]⟩, d2⟩
  · rcases e1 with e1 | ⟨l2, e1, e3⟩
    · cases e1
    · injection e1 with e1
      subst e1 e2
      rcases h2 with ⟨l2, r2, d1, d2, d3⟩ | ⟨d1, d2⟩
      · cases d1
      · exact .inr ⟨.inr ⟨l, rfl, by simp only [tkMany, e3]⟩, d2⟩
/-- Behind a failure all that is to come fails. -/
theorem Tk.over {α : Type} {tk : Tak α} {k n : Nat} {l : List Int} {xs : List α} (ys : List α) (h : Tk (tkMany tk k) (some l) xs none) (hk : k ≤ n) : Tk (tkMany tk n) (some l) ys none := by
  rcases h with ⟨l', r, e1, e2, e3⟩ | ⟨e1, e2⟩
  · cases e3
  · rcases e1 with e1 | ⟨l2, e1, e3⟩
    · cases e1
    · injection e1 with e1
      subst e1
      exact .inr ⟨.inr ⟨l, rfl, tkMany_none e3 hk⟩, rfl⟩
/-- A count that serves, and then so many. -/
theorem Tk.cnt {α : Type} {tk : Tak α} {n : Int} {l : List Int} {xs : List α} {st : Option (List Int)} (hn : 0 ≤ n) (hl : n.toNat ≤ l.length) (h : Tk (tkMany tk n.toNat) (some l) xs st) : Tk (tkCnt tk) (some (n :: l)) xs st := by
  have e : tkCnt tk (n :: l) = tkMany tk n.toNat l := if_pos ⟨hn, hl⟩
  rcases h with ⟨l', r, e1, e2, e3⟩ | ⟨e1, e2⟩
  · injection e1 with e1
    subst e1
    exact .inl ⟨_, r, rfl, e.trans e2, e3⟩
  · rcases e1 with e1 | ⟨l2, e1, e3⟩
    · cases e1
    · injection e1 with e1
      subst e1
      exact .inr ⟨.inr ⟨_, rfl, e.trans e3⟩, e2⟩
/-- Two one behind the other. -/
def tkTwo {α β γ : Type} (ta : Tak α) (tb : Tak β) (f : α → β → γ) : Tak γ := fun l => match ta l with
  | some (a, r) => match tb r with
    | some (b, r') => some (f a b, r')
    | none => none
  | none => none
theorem Tk.two {α β γ : Type} {ta : Tak α} {tb : Tak β} (f : α → β → γ) {a : α} {b : β} {st s1 s2 : Option (List Int)} (h : Tk ta st a s1) (h2 : Tk tb s1 b s2) : Tk (tkTwo ta tb f) st (f a b) s2 := by
  rcases h with ⟨l, r, e1, e2, e3⟩ | ⟨e1, e2⟩
  · subst e1 e3
    rcases h2 with ⟨l2, r2, d1, d2, d3⟩ | ⟨d1, d2⟩
    · injection d1 with d1
      subst d1
      exact .inl ⟨l, r2, rfl, by simp only [tkTwo, e2, d2], d3⟩
    · rcases d1 with d1 | ⟨l2, d1, d3⟩
      · cases d1
      · injection d1 with d1
        subst d1
        exact .inr ⟨.inr ⟨l, rfl, by simp only [tkTwo, e2, d3]⟩, d2⟩
  · subst e2
    rcases h2 with ⟨l2, r2, d1, d2, d3⟩ | ⟨d1, d2⟩
    · cases d1
    · rcases e1 with e1 | ⟨l2, e1, e3⟩
      · exact .inr ⟨.inl e1, d2⟩
      · exact .inr ⟨.inr ⟨l2, e1, by simp only [tkTwo, e3]⟩, d2⟩
theorem Tk.congr {α : Type} {ta tb : Tak α} (e : ta = tb) {st st' : Option (List Int)} {a : α} (h : Tk ta st a st') : Tk tb st a st' := e ▸ h
theorem tkMany_N (k : Nat) (l : List Int) : tkMany tkN k l = if k ≤ l.length then some (l.take k, l.drop k) else none := by
  induction k with
  | zero => simp [tkMany]
  | succ k ih =>
    simp only [tkMany, ih]
    by_cases h : k ≤ l.length
    · rw [if_pos h]
      by_cases h2 : k + 1 ≤ l.length
      · rw [if_pos h2]
        have : l.drop k = l[k] :: l.drop (k + 1) := List.drop_eq_getElem_cons (by omega)
        simp only [this, tkN]
        rw [List.take_succ_eq_append_getElem (by omega)]
      · rw [if_neg h2]
        have : l.drop k = [] := List.drop_eq_nil_of_le (by omega)
        simp only [this, tkN]
    · rw [if_neg h, if_neg (by omega)]
theorem tkRow_cnt : tkCnt tkN = tkRow := by
  funext l
  cases l with
  | nil => rfl
  | cons n r =>
    simp only [tkCnt, tkRow]
    by_cases h : 0 ≤ n ∧ n.toNat ≤ r.length
    · rw [if_pos h, if_pos h, tkMany_N, if_pos h.2]
    · rw [if_neg h, if_neg h]
theorem tkMany_succ {α : Type} (tk : Tak α) (k : Nat) : ∀ l, tkMany tk (k + 1) l = match tk l with
    | some (x, r) => match tkMany tk k r with
      | some (xs, r') => some (x :: xs, r')
      | none => none
    | none => none := by
  induction k with
  | zero =>
    intro l
    simp only [tkMany]
    cases tk l with
    | none => rfl
    | some p => rfl
  | succ k ih =>
    intro l
    have h1 : tkMany tk (k + 1 + 1) l = match tkMany tk (k + 1) l with
      | some (xs, r) => match tk r with
        | some (x, r') => some (xs ++ [x], r')
        | none => none
      | none => none := rfl
    rw [h1, ih l]
    cases tk l with
    | none => rfl
    | some p =>
      obtain ⟨x, r⟩ := p
      simp only [tkMany]
      cases tkMany tk k r with
      | none => rfl
      | some q =>
        obtain ⟨xs, r'⟩ := q
        simp only
        cases tk r' with
        | none => rfl
        | some z => rfl
theorem tkWrs_many (k : Nat) : ∀ l, tkMany tkW k l = tkWrs k l := by
  induction k with
  | zero => intro l; rfl
  | succ k ih =>
    intro l
    rw [tkMany_succ]
    match l with
    | [] => rfl
    | [_] => rfl
    | a :: b :: r =>
      simp only [tkW, tkWrs, ih]
      cases tkWrs k r with
      | none => rfl
      | some q => rfl
theorem tkBuf_cnt : tkCnt tkW = tkBuf := by
  funext l
  cases l with
  | nil => rfl
  | cons n r =>
    simp only [tkCnt, tkBuf, tkWrs_many]
theorem tkThs_many (k : Nat) : ∀ l, tkMany tkTh k l = tkThs k l := by
  induction k with
  | zero => intro l; rfl
  | succ k ih =>
    intro l
    rw [tkMany_succ]
    simp only [tkThs]
    cases tkTh l with
    | none => rfl
    | some p =>
      obtain ⟨t, r⟩ := p
      simp only [ih]
      cases tkThs k r with
      | none => rfl
      | some q => rfl
theorem tkW_two : tkTwo tkN tkN (fun a b => (⟨a, b⟩ : Wr)) = tkW := by
  funext l
  match l with
  | [] => rfl
  | [_] => rfl
  | a :: b :: r => rfl
def mkTh (p : Int × Bool) (q : List Int × List Wr) : Th := ⟨p.1, q.1, p.2, q.2⟩
theorem tkTh_two : tkTwo (tkTwo tkN tkB Prod.mk) (tkTwo tkRow tkBuf Prod.mk) mkTh = tkTh := by
  funext l
  match l with
  | [] => rfl
  | [_] => rfl
  | a :: e :: r =>
    simp only [tkTwo, tkN, tkB, tkTh]
    by_cases h : e = 0 ∨ e = 1
    · rw [if_pos h, if_pos h]
      simp only
      cases tkRow r with
      | none => rfl
      | some p =>
        obtain ⟨rg, r1⟩ := p
        simp only
        cases tkBuf r1 with
        | none => rfl
        | some q => rfl
    · rw [if_neg h, if_neg h]
theorem tkS_two : tkTwo tkRow (tkCnt tkTh) Sta.mk = tkS := by
  funext l
  simp only [tkTwo, tkS]
  cases tkRow l with
  | none => rfl
  | some p =>
    obtain ⟨m, l1⟩ := p
    simp only
    cases l1 with
    | nil => rfl
    | cons n l2 =>
      simp only [tkCnt, tkThs_many]
      by_cases h : 0 ≤ n ∧ n.toNat ≤ l2.length
      · rw [if_pos h, if_pos h]
        cases tkThs n.toNat l2 with
        | none => rfl
        | some q => rfl
      · rw [if_neg h, if_neg h]
theorem tkRow_le {l r : List Int} {m : List Int} (h : tkRow l = some (m, r)) : r.length ≤ l.length := by
  have := congrArg List.length (tkRow_inv h); rw [List.length_append] at this; omega
theorem tkBuf_le {l r : List Int} {m : List Wr} (h : tkBuf l = some (m, r)) : r.length ≤ l.length := by
  have := congrArg List.length (tkBuf_inv h); rw [List.length_append] at this; omega
theorem tkTh_le {l r : List Int} {m : Th} (h : tkTh l = some (m, r)) : r.length ≤ l.length := by
  have := congrArg List.length (tkTh_inv h); rw [List.length_append] at this; omega
theorem Tk.le {α : Type} {tk : Tak α} (ht : ∀ {l r a}, tk l = some (a, r) → r.length ≤ l.length) {st : Option (List Int)} {a : α} {r : List Int} (h : Tk tk st a (some r)) : ∃ l, st = some l ∧ r.length ≤ l.length := by
  rcases h with ⟨l, r', e1, e2, e3⟩ | ⟨e1, e2⟩
  · injection e3 with e3
    subst e3
    exact ⟨l, e1, ht e2⟩
  · cases e2
theorem tkR_len {st : Option (List Int)} {a : List Int} {r : List Int} (h : Tk tkRow st a (some r)) : ∃ l, st = some l ∧ r.length ≤ l.length := h.le tkRow_le
theorem tk2_len {st : Option (List Int)} {a : Int × Bool} {r : List Int} (h : Tk (tkTwo tkN tkB Prod.mk) st a (some r)) : ∃ l, st = some l ∧ r.length ≤ l.length := by
  refine h.le (fun {l r a} h => ?_)
  match l, h with
  | [], h => cases h
  | [_], h => cases h
  | x :: e :: l, h =>
    simp only [tkTwo, tkN, tkB] at h
    split at h
    · rename_i b r' hb
      split at hb
      · injection hb with hb; injection hb with _ hb
        injection h with h; injection h with _ h
        subst h hb
        simp only [List.length_cons]; omega
      · cases hb
    · cases h
/-- What is left is no more. -/
theorem Tk.ofN {l : List Int} {s : Sta} {st : Option (List Int)} (h : Tk tkS (some l) s st) : (st = some [] ∧ ofN l = some s) ∨ (st ≠ some [] ∧ ofN l = none) := by
  rcases h with ⟨l', r, e1, e2, e3⟩ | ⟨e1, e2⟩
  · injection e1 with e1
    subst e1
    cases r with
    | nil => exact .inl ⟨e3, by unfold EnM.ofN; rw [e2]⟩
    | cons x r => exact .inr ⟨by rw [e3]; simp, by unfold EnM.ofN; rw [e2]⟩
  · rcases e1 with e1 | ⟨l2, e1, e3⟩
    · cases e1
    · injection e1 with e1
      subst e1
      exact .inr ⟨by rw [e2]; simp, by unfold EnM.ofN; rw [e3]⟩
end EnM
end Go.Proofs.YtmpjcfehabnhgaaDoor
namespace Go.Proofs.YtmpjcfehabnhgaaDoor
open Go.RowKit
set_option linter.unusedVariables false
set_option linter.unusedSimpArgs false
open BfM (Wr)
open ScM
open EnM

theorem news_new (w : World) (cs : List Value) (t : TypeId) : ∀ j u, cs[j]? = some u → (w.alloc (.cells cs.toArray t)).cell? ((⟨w.heap.size, 0, none⟩ : Addr).add j) = some u := by
  intro j u hj
  rw [show ((⟨w.heap.size, 0, none⟩ : Addr).add j) = ⟨w.heap.size, j, none⟩ by simp [Addr.add]; intro e; exact e.symm]
  rw [World.cell?_alloc_at _ _ _ _ rfl]
  simpa using hj
/-- All blocks below n but g stay. -/
def KpG (n g : Nat) (W W' : World) : Prop := W'.os = W.os ∧ W'.tape = W.tape ∧ W'.output = W.output ∧ W.heap.size ≤ W'.heap.size ∧ ∀ k, k < n → k ≠ g → W'.heap[k]? = W.heap[k]?
theorem KpG.refl (n g : Nat) (W : World) : KpG n g W W := ⟨rfl, rfl, rfl, Nat.le_refl _, fun _ _ _ => rfl⟩
theorem KpG.trans {n g : Nat} {a b c : World} (h : KpG n g a b) (k : KpG n g b c) : KpG n g a c :=
  ⟨k.1.trans h.1, k.2.1.trans h.2.1, k.2.2.1.trans h.2.2.1, Nat.le_trans h.2.2.2.1 k.2.2.2.1, fun i h1 h2 => (k.2.2.2.2 i h1 h2).trans (h.2.2.2.2 i h1 h2)⟩
theorem KpG.mono {n m g : Nat} {a b : World} (h : KpG n g a b) (hm : m ≤ n) : KpG m g a b := ⟨h.1, h.2.1, h.2.2.1, h.2.2.2.1, fun k h1 h2 => h.2.2.2.2 k (by omega) h2⟩
theorem KpG.size {n g : Nat} {a b : World} (h : KpG n g a b) : a.heap.size ≤ b.heap.size := h.2.2.2.1
theorem KpG.below {n g B : Nat} {a b : World} (h : KpG n g a b) (hB : B ≤ g) (hn : B ≤ n) : Below B a b := ⟨h.1, h.2.1, h.2.2.1, h.2.2.2.1, fun k hk => h.2.2.2.2 k (by omega) (by omega)⟩
theorem KpG.of {n g : Nat} {a b : World} (h : Below n a b) : KpG n g a b := ⟨h.os, h.tape, h.output, h.size, fun k hk _ => h.block k hk⟩
theorem KpG.al {n g : Nat} {a b : World} (h : KpG n g a b) (hn : n ≤ a.heap.size) (o : Obj) : KpG n g a (b.alloc o) :=
  h.trans (KpG.of ((below_al (Below.refl b.heap.size b) o).mono (Nat.le_trans hn h.size)))
theorem KpG.set (n g : Nat) (W : World) (i : Nat) (v : Value) : KpG n g W (W.setCell ⟨g, i, none⟩ v) :=
  ⟨rfl, rfl, rfl, by simp, fun k _ h => heap_setCell_other W ⟨g, i, none⟩ k v h⟩
theorem KpG.set2 {n g b : Nat} {a W : World} (h : KpG n g a W) (hb : n ≤ b) (i : Nat) (v : Value) : KpG n g a (W.setCell ⟨b, i, none⟩ v) :=
  h.trans ⟨rfl, rfl, rfl, by simp, fun k h1 _ => heap_setCell_other W ⟨b, i, none⟩ k v (by show k ≠ b; omega)⟩
/-- Behind an append to a row in new memory. -/
theorem KpG.app {n g base T s m : Nat} {a W W' : World} {v : Value} {xs : List Value} (h : KpG n g a W) (hs : n ≤ a.heap.size) (ho : W.ownsRow base T s v m xs) (hn : n ≤ base) (hg : W.grownBy W' v.ownBlock) : KpG n g a W' :=
  h.trans ⟨hg.os, hg.tape, hg.output, hg.size, fun k h1 _ => hg.block k (by have := h.size; omega) (fun e => by have := (ho.lt k e.symm).1; omega)⟩
/-- What such a call leaves of a row, or a box, of another type than the box's. -/
theorem own_kp {g base T T2 s m : Nat} {W W' : World} {v : Value} {xs : List Value} {cs : Array Value} (h : W.ownsRow base T s v m xs) (hb : BoxC W g T2 cs) (hT : T ≠ T2) (hk : KpG W.heap.size g W W') : W'.ownsRow base T s v m xs := by
  refine h.kept (row := some g) ⟨hk.1, hk.2.1, hk.2.2.1, hk.2.2.2.1, fun k h1 h2 => hk.2.2.2.2 k h1 (fun e => h2 (by rw [e]))⟩ ?_
  rcases h.2 with ⟨rfl, _⟩ | ⟨g1, c1, cur1, rfl, _, hh1, _⟩
  · exact .inl rfl
  · right
    intro e
    injection e with e
    have e : g1 = g := e
    subst e
    rw [show W.heap[g1]? = _ from hb] at hh1; injection hh1 with hh1; injection hh1 with _ hh1
    exact hT hh1.symm
theorem BoxC.kp {g b : Nat} {W W' : World} {T : TypeId} {cs : Array Value} (h : BoxC W b T cs) (hk : KpG W.heap.size g W W') (hne : b ≠ g) : BoxC W' b T cs := (hk.2.2.2.2 b h.lt hne).trans h

/-- A reader in block g: what is left, as long as there is no error. -/
def RdS (B g : Nat) (a0 : Addr) (W : World) (st : Option (List Int)) : Prop :=
  B ≤ g ∧ ∃ vl e l, BoxC W g 48 #[vl, e] ∧ IntR B W vl l ∧ ((st = some l ∧ e = .nilIface) ∨ (st = none ∧ Bd B a0 W e))
theorem RdS.lt {B g : Nat} {a0 : Addr} {W : World} {st : Option (List Int)} (h : RdS B g a0 W st) : g < W.heap.size := by obtain ⟨_, vl, e, l, h, _⟩ := h; exact h.lt
theorem RdS.base {B g : Nat} {a0 : Addr} {W : World} {st : Option (List Int)} (h : RdS B g a0 W st) : B ≤ W.heap.size := Nat.le_trans h.1 (Nat.le_of_lt h.lt)
theorem RdS.below {B g : Nat} {a0 : Addr} {W W' : World} {st : Option (List Int)} (h : RdS B g a0 W st) (hb : Below W.heap.size W W') : RdS B g a0 W' st := by
  have hB := h.base
  obtain ⟨h0, vl, e, l, h1, h2, h3⟩ := h
  exact ⟨h0, vl, e, l, h1.below hb h1.lt, h2.below (hb.mono hB), h3.imp id (fun h => ⟨h.1, h.2.below (hb.mono hB)⟩)⟩
theorem RdS.al {B g : Nat} {a0 : Addr} {W : World} {st : Option (List Int)} (h : RdS B g a0 W st) (o : Obj) : RdS B g a0 (W.alloc o) st := h.below (below_al (Below.refl _ _) o)
/-- Behind an append to a row in newer memory. -/
theorem RdS.app {B g base T s m : Nat} {a0 : Addr} {W W' : World} {st : Option (List Int)} {v : Value} {xs : List Value} (h : RdS B g a0 W st) (ho : W.ownsRow base T s v m xs) (hB : B ≤ base) (hT : (48 : TypeId) ≠ T) (hg : W.grownBy W' v.ownBlock) : RdS B g a0 W' st := by
  have hBW := h.base
  have hb : Below B W W' := ⟨hg.os, hg.tape, hg.output, hg.size, fun k h1 => hg.block k (by omega) (fun e => by have := (ho.lt k e.symm).1; omega)⟩
  obtain ⟨h0, vl, e, l, h1, h2, h3⟩ := h
  exact ⟨h0, vl, e, l, h1.grown hT ho hg, h2.below hb, h3.imp id (fun h => ⟨h.1, h.2.below hb⟩)⟩
/-- Behind a store into another box in newer memory. -/
theorem RdS.set {B g b i : Nat} {a0 : Addr} {W : World} {st : Option (List Int)} {v : Value} (h : RdS B g a0 W st) (hB : B ≤ b) (hne : g ≠ b) : RdS B g a0 (W.setCell ⟨b, i, none⟩ v) st := by
  have hb : Below B W (W.setCell ⟨b, i, none⟩ v) := (Below.refl B W).setCell (p := ⟨b, i, none⟩) hB v
  obtain ⟨h0, vl, e, l, h1, h2, h3⟩ := h
  exact ⟨h0, vl, e, l, h1.other hne i v, h2.below hb, h3.imp id (fun h => ⟨h.1, h.2.below hb⟩)⟩
set_option maxHeartbeats 4000000 in
set_option maxRecDepth 100000 in
theorem keep_nil {g : Nat} {vl e : Value} (w : World) (h : BoxC w g 48 #[vl, .nilIface]) (a : Addr) (he : e = erV a) :
    Calls Tryd.prog 41 #[.pointer (some ⟨g, 0, none⟩), e] w fun r w' => r = .returned (.tuple #[]) ∧ w' = w.setCell ⟨g, 1, none⟩ e := by
  subst he
  have c1 := h.cell 1 _ rfl
  have f1 := h.frozen 1
  unfold erV
  go_enter Tryd.func41, Tryd.ntmps41
  go_wp2
  refine bodyPost_end (v := .tuple #[]) (by simp [results, Tryd.results41, go_sem]) rfl ?_
  exact ⟨rfl, rfl⟩
set_option maxHeartbeats 4000000 in
set_option maxRecDepth 100000 in
theorem keep_old {g : Nat} {vl e : Value} (w : World) (a : Addr) (h : BoxC w g 48 #[vl, erV a]) (b : Addr) (he : e = erV b) :
    Calls Tryd.prog 41 #[.pointer (some ⟨g, 0, none⟩), e] w fun r w' => r = .returned (.tuple #[]) ∧ w' = w := by
  subst he
  have c1 := h.cell 1 _ rfl
  unfold erV at c1 ⊢
  go_enter Tryd.func41, Tryd.ntmps41
  go_wp2
  refine bodyPost_end (v := .tuple #[]) (by simp [results, Tryd.results41, go_sem]) rfl ?_
  exact ⟨rfl, rfl⟩
/-- An error more: behind it there is one. -/
theorem keep_any {B g : Nat} {a0 : Addr} {st : Option (List Int)} {e : Value} (w : World) (h : RdS B g a0 w st) (he : Bd B a0 w e) :
    Calls Tryd.prog 41 #[.pointer (some ⟨g, 0, none⟩), e] w fun r w' => r = .returned (.tuple #[]) ∧ RdS B g a0 w' none ∧ KpG w.heap.size g w w' := by
  have hs : Below B w (w.setCell ⟨g, 1, none⟩ e) := (Below.refl B w).setCell (p := ⟨g, 1, none⟩) h.1 e
  obtain ⟨h0, vl, e0, l, h1, h2, h3⟩ := h
  obtain ⟨a, ha, he'⟩ := id he
  rcases h3 with ⟨_, rfl⟩ | ⟨_, hbd⟩
  · refine (keep_nil w h1 a ha).mono ?_
    rintro r w' ⟨rfl, rfl⟩
    exact ⟨rfl, ⟨h0, vl, e, l, h1.set 1 e, h2.below hs, .inr ⟨rfl, he.below hs⟩⟩, KpG.set _ _ _ _ _⟩
  · obtain ⟨a1, rfl, hb'⟩ := id hbd
    refine (keep_old w a1 h1 a ha).mono ?_
    rintro r w' ⟨rfl, rfl⟩
    exact ⟨rfl, ⟨h0, vl, _, l, h1, h2, .inr ⟨rfl, hbd⟩⟩, KpG.refl _ _ _⟩
theorem int_tail {B b f c : Nat} {W : World} {x : Int} {r : List Int} (h : IntR B W (.slice (some ⟨b, f, none⟩) (r.length + 1) c) (x :: r)) : IntR B W (.slice (some ⟨b, f + 1, none⟩) r.length (c - 1)) r := by
  obtain ⟨A, c', e, h1, h2, h0, h3⟩ := h
  injection e with e1 e2 e3
  subst e1 e3
  rw [List.length_cons] at h1
  refine ⟨_, _, rfl, by omega, by omega, fun e => (by cases e), fun k => ?_⟩
  obtain ⟨b', f', e, hb, hc⟩ := h3 (by simp)
  injection e with e
  injection e with e1 e2
  subst e1 e2
  refine ⟨b, f + 1, rfl, hb, fun j u hu => ?_⟩
  have := hc (j + 1) u (by rw [List.flatMap_cons]; show (Value.int .i64 x :: r.flatMap nuC)[j + 1]? = some u; rw [List.getElem?_cons_succ]; exact hu)
  rw [show f + 1 + j = f + (j + 1) by omega]
  exact this
theorem int_none (B : Nat) (W : World) (b f : Nat) : IntR B W (.slice (some ⟨b, f, none⟩) 0 0) [] := ⟨_, _, rfl, Nat.le_refl _, by decide, fun e => (by cases e), fun k => absurd k (by simp)⟩
/-- A store of what is left. -/
theorem RdS.cut {B g : Nat} {a0 : Addr} {W : World} {vl e v' : Value} {n : Int} {r : List Int} {st : Option (List Int)} (hB : B ≤ g) (hb : BoxC W g 48 #[vl, e]) (h3 : (st = some (n :: r) ∧ e = .nilIface) ∨ (st = none ∧ Bd B a0 W e)) (hv : IntR B W v' r) :
    ∃ st', Tk tkN st n st' ∧ RdS B g a0 (W.setCell ⟨g, 0, none⟩ v') st' := by
  have hs : Below B W (W.setCell ⟨g, 0, none⟩ v') := (Below.refl B W).setCell (p := ⟨g, 0, none⟩) hB v'
  rcases h3 with ⟨rfl, rfl⟩ | ⟨rfl, h⟩
  · exact ⟨some r, Tk.ok rfl, hB, v', _, r, hb.set 0 v', hv.below hs, .inl ⟨rfl, rfl⟩⟩
  · exact ⟨none, Tk.bad _, hB, v', _, r, hb.set 0 v', hv.below hs, .inr ⟨rfl, h.below hs⟩⟩
/-- What a taking hands back: a value of what was taken, or of whatever it is; and the reader behind it. -/
def TkR {α : Type} (tk : Tak α) (rep : World → Value → α → Prop) (B g : Nat) (a0 : Addr) (st : Option (List Int)) (w : World) (e : Ending) (w' : World) : Prop :=
  ∃ v a st', e = .returned v ∧ rep w' v a ∧ Tk tk st a st' ∧ RdS B g a0 w' st' ∧ KpG w.heap.size g w w'
def repN (_ : World) (v : Value) (n : Int) : Prop := v = .int .i64 n
def repB (_ : World) (v : Value) (b : Bool) : Prop := v = .bool b
def repW (_ : World) (v : Value) (x : Wr) : Prop := v = .agg #[.int .i64 x.loc, .int .i64 x.n]
set_option maxHeartbeats 4000000 in
set_option maxRecDepth 100000 in
theorem number_any {B g : Nat} {a0 : Addr} {st : Option (List Int)} (w : World) (h : RdS B g a0 w st) (hE : ErG B a0 w) :
    Calls Tryd.prog 38 #[.pointer (some ⟨g, 0, none⟩)] w (TkR tkN repN B g a0 st w) := by
  have HR := Lib.hid h
  obtain ⟨h0, vl, e, l, h1, h2, h3⟩ := h
  have H2 := Lib.hid h2
  obtain ⟨A, c, rfl, g1, g2, gz, g3⟩ := h2
  unfold maxLen at g2
  have c0 := h1.cell 0 _ rfl
  cases l with
  | nil =>
    obtain ⟨el, ce, hbe⟩ := hE.cLack
    have HK := Lib.hid (keep_any w HR.out hbe)
    obtain ⟨ae, rfl, _⟩ := hbe
    have HT := Lib.hid (show Tk tkN st 0 none by
      rcases h3 with ⟨h, _⟩ | ⟨h, _⟩
      · rw [h]; exact Tk.cut _ rfl
      · rw [h]; exact Tk.bad _)
    unfold erV at ce HK
    clear h3 g3 gz hE HR H2
    go_enter Tryd.func38, Tryd.ntmps38
    go_wp2_with (go_at_call 41; refine HK.out.mono ?_)
    rintro e w1 ⟨rfl, hr, hk⟩
    go_wp2
    go_ret
    exact ⟨_, 0, none, rfl, rfl, HT.out, hr, hk⟩
  | cons n r =>
    obtain ⟨b, f, rfl, hb, hc⟩ := nu_at (c := c) g3 (by simp)
    have d0 := hc 0 (by simp)
    simp only [Nat.add_zero, List.getElem_cons_zero] at d0
    have fz := h1.frozen 0
    have HB := Lib.hid h1
    rw [List.length_cons] at g1 c0
    have HC := Lib.hid (fun v' hv => RdS.cut (v' := v') h0 HB.out h3 hv)
    have HTL := Lib.hid (int_tail (show IntR B w (.slice (some ⟨b, f, none⟩) (r.length + 1) c) (n :: r) from H2.out))
    have HK := Lib.hid (fun v => KpG.set w.heap.size g w 0 v)
    clear h3 g3 gz hE HR hc H2
    go_enter Tryd.func38, Tryd.ntmps38
    go_wp2_with fail
    · go_ret
      obtain ⟨st', k1, k2⟩ := HC.out (.slice (some ⟨b, f, none⟩) r.length 0) (by
        have h0 : r = [] := List.eq_nil_of_length_eq_zero (by omega)
        subst h0
        exact int_none _ _ _ _)
      exact ⟨_, n, st', rfl, rfl, k1, k2, HK.out _⟩
    · go_ret
      obtain ⟨st', k1, k2⟩ := HC.out _ HTL.out
      exact ⟨_, n, st', rfl, rfl, k1, k2, HK.out _⟩
set_option maxHeartbeats 4000000 in
set_option maxRecDepth 100000 in
theorem truth_any {B g : Nat} {a0 : Addr} {st : Option (List Int)} (w : World) (h : RdS B g a0 w st) (hE : ErG B a0 w) :
    Calls Tryd.prog 54 #[.pointer (some ⟨g, 0, none⟩)] w (TkR tkB repB B g a0 st w) := by
  have HB := Lib.hid h.1
  have HN := Lib.hid (number_any w h hE)
  have HE := Lib.hid hE
  have hsz := h.base
  clear h hE
  go_enter Tryd.func54, Tryd.ntmps54
  go_wp2_with (go_at_call 38; refine HN.out.mono ?_)
  rintro e w1 ⟨_, n, st1, rfl, rfl, ht, hr, hk⟩
  have HT := Lib.hid ht
  have HR := Lib.hid hr
  have HK := Lib.hid hk
  have HE1 := Lib.hid (HE.out.below (hk.below HB.out hsz))
  clear HN ht hr hk HE
  by_cases h0 : n = 0 ∨ n = 1
  · have HT2 := Lib.hid (show Tk tkB st (decide (n = 1)) st1 by
      rcases HT.out with ⟨l, r, e1, e2, e3⟩ | ⟨e1, e2⟩
      · subst e1
        cases l with
        | nil => cases e2
        | cons m q =>
          injection e2 with e2; injection e2 with e2 e4
          subst e2 e4
          exact .inl ⟨_, _, rfl, if_pos h0, e3⟩
      · refine .inr ⟨?_, e2⟩
        rcases e1 with e1 | ⟨l, e1, e4⟩
        · exact .inl e1
        · refine .inr ⟨l, e1, ?_⟩
          cases l with
          | nil => rfl
          | cons m q => cases e4)
    clear HT
    rcases h0 with rfl | rfl
    · go_wp2
      go_ret
      exact ⟨_, _, _, rfl, rfl, HT2.out, HR.out, HK.out⟩
    · go_wp2
      go_ret
      exact ⟨_, _, _, rfl, rfl, HT2.out, HR.out, HK.out⟩
  · obtain ⟨el, ce, hbe⟩ := HE1.out.cTruth
    have HKP := Lib.hid (keep_any w1 HR.out hbe)
    obtain ⟨ae, rfl, _⟩ := hbe
    have HT2 := Lib.hid (show Tk tkB st false none by
      rcases HT.out with ⟨l, r, e1, e2, e3⟩ | ⟨e1, e2⟩
      · subst e1
        cases l with
        | nil => cases e2
        | cons m q =>
          injection e2 with e2; injection e2 with e2 e4
          subst e2
          exact Tk.cut _ (if_neg h0)
      · rcases e1 with e1 | ⟨l, e1, e4⟩
        · rw [e1]; exact Tk.bad _
        · subst e1
          cases l with
          | nil => exact Tk.cut _ rfl
          | cons m q => cases e4)
    have n0 : (n == 0) = false := beq_eq_false_iff_ne.2 (fun e => h0 (.inl e))
    have n1 : (n == 1) = false := beq_eq_false_iff_ne.2 (fun e => h0 (.inr e))
    have q0 : (n != 0) = true := by simp [bne, n0]
    have q1 : (n != 1) = true := by simp [bne, n1]
    have m0 : ¬ n = 0 := fun e => h0 (.inl e)
    have m1 : ¬ n = 1 := fun e => h0 (.inr e)
    unfold erV at ce HKP
    clear HT HE1 HR h0
    go_wp2_with (go_at_call 41; refine HKP.out.mono ?_)
    rintro e w2 ⟨rfl, hr, hk⟩
    have HK2 := Lib.hid (HK.out.trans (hk.mono HK.out.size))
    clear hk HK HKP
    go_wp2
    go_ret
    exact ⟨_, _, _, rfl, rfl, HT2.out, hr, HK2.out⟩
set_option maxHeartbeats 4000000 in
set_option maxRecDepth 100000 in
theorem write_any {B g : Nat} {a0 : Addr} {st : Option (List Int)} (w : World) (h : RdS B g a0 w st) (hE : ErG B a0 w) :
    Calls Tryd.prog 56 #[.pointer (some ⟨g, 0, none⟩)] w (TkR tkW repW B g a0 st w) := by
  have HB := Lib.hid h.1
  have hsz := h.base
  have hne : w.heap.size ≠ g := fun e => by have := h.lt; omega
  have hal := below_al (Below.refl w.heap.size w) (.cells #[.int .i64 0, .int .i64 0] 41)
  have hbx := BoxC.new w 41 #[.int .i64 0, .int .i64 0]
  have hs1 : (w.alloc (.cells #[.int .i64 0, .int .i64 0] 41)).heap.size = w.heap.size + 1 := by simp
  have hE1 := hE.below (hal.mono hsz)
  have HN := Lib.hid (number_any _ (h.al (.cells #[.int .i64 0, .int .i64 0] 41)) hE1)
  have HE := Lib.hid hE1
  have hk0 := (KpG.refl w.heap.size g w).al (Nat.le_refl _) (.cells #[.int .i64 0, .int .i64 0] 41)
  clear h hE hE1 hal
  go_enter Tryd.func56, Tryd.ntmps56
  go_wp2_with (go_at_call 38; refine HN.out.mono ?_)
  rintro e w1 ⟨_, n, st1, rfl, rfl, ht, hr, hk⟩
  have HT := Lib.hid ht
  have hk1 := hk0.trans (hk.mono (by omega))
  have hb1 := hbx.kp hk hne
  have HE1 := Lib.hid (HE.out.below (hk.below HB.out (by omega)))
  have HN := Lib.hid (number_any w1 hr HE1.out)
  clear ht hr hk HE hbx
  go_wp2_with (go_at_call 38; refine HN.out.mono ?_)
  rintro e w2 ⟨_, m, st2, rfl, rfl, ht, hr, hk⟩
  have HT2 := Lib.hid ((Tk.two (fun a b => (⟨a, b⟩ : Wr)) HT.out ht).congr tkW_two)
  have hk2 := hk1.trans (hk.mono hk1.size)
  have hb2 := hb1.kp hk hne
  have f0 := hb2.frozen 0
  have f1 := hb2.frozen 1
  have d0 := hb2.cell 0 _ rfl
  have d1 := hb2.cell 1 _ rfl
  have HR := Lib.hid hr
  have HK := Lib.hid hk2
  clear ht HT hk hk1 hb1 HN HE1 hr hk2
  obtain ⟨W9, hW9⟩ : ∃ W, W = (w2.setCell ⟨w.heap.size, 0, none⟩ (.int .i64 n)).setCell ⟨w.heap.size, 1, none⟩ (.int .i64 m) := ⟨_, rfl⟩
  have HB9 := Lib.hid (show BoxC W9 w.heap.size 41 #[.int .i64 n, .int .i64 m] from by rw [hW9]; exact (hb2.set 0 _).set 1 _)
  have HR9 := Lib.hid (show RdS B g a0 W9 st2 from by rw [hW9]; exact (HR.out.set hsz (fun e => hne e.symm)).set hsz (fun e => hne e.symm))
  have HK9 := Lib.hid (show KpG w.heap.size g w W9 from by rw [hW9]; exact (HK.out.set2 (Nat.le_refl _) 0 _).set2 (Nat.le_refl _) 1 _)
  have HW9 := Lib.hid hW9
  clear hW9
  have hz : Tryd.prog.cellsOf 41 = 2 := by kernel_rfl
  go_wp2_with fail
  rw [← HW9.out]
  clear d0 d1 f0 f1
  have r0 := HB9.out.cell 0 _ rfl
  have r1 := HB9.out.cell 1 _ rfl
  refine bodyPost_ret (v := .agg #[.int .i64 n, .int .i64 m]) (by simp [results, Tryd.results56, go_sem, r0, r1, hz]) rfl ?_
  exact ⟨_, ⟨n, m⟩, st2, rfl, rfl, HT2.out, HR9.out, HK9.out⟩
end Go.Proofs.YtmpjcfehabnhgaaDoor
namespace Go.Proofs.YtmpjcfehabnhgaaDoor
open Go.RowKit
set_option linter.unusedVariables false
set_option linter.unusedSimpArgs false
open BfM (Wr)
open ScM
open EnM

/-- How many states of a reader go with how many items, behind the count n. -/
def MnF {α : Type} (tk : Tak α) (st : Option (List Int)) (n : Int) (k : Nat) (xs : List α) (st' : Option (List Int)) : Prop :=
  (st' = none → ∀ ys, Tk (tkCnt tk) st ys none) ∧ ∀ r, st' = some r → ∃ l, st = some (n :: l) ∧ 0 ≤ n ∧ n.toNat ≤ l.length ∧ Tk (tkMany tk k) (some l) xs (some r)
theorem MnF.start {α : Type} {tk : Tak α} {st : Option (List Int)} {n : Int} {l : List Int} (h : Tk tkN st n (some l)) (h0 : 0 ≤ n) (h1 : n.toNat ≤ l.length) : MnF tk st n 0 [] (some l) := by
  refine ⟨fun e => (by cases e), fun r e => ?_⟩
  injection e with e
  subst e
  rcases h with ⟨l', r', e1, e2, e3⟩ | ⟨e1, e2⟩
  · cases l' with
    | nil => cases e2
    | cons m q =>
      injection e2 with e2; injection e2 with e2 e4
      injection e3 with e3
      subst e1 e2 e4 e3
      exact ⟨_, rfl, h0, h1, Tk.zero tk _⟩
  · cases e2
theorem MnF.bad {α : Type} {tk : Tak α} {st st1 : Option (List Int)} {n : Int} (h : Tk tkN st n st1) (hn : ∀ l, st1 = some l → ¬ (0 ≤ n ∧ n.toNat ≤ l.length)) : MnF tk st n 0 [] none := by
  refine ⟨fun _ ys => ?_, fun r e => (by cases e)⟩
  rcases h with ⟨l', r', e1, e2, e3⟩ | ⟨e1, e2⟩
  · cases l' with
    | nil => cases e2
    | cons m q =>
      injection e2 with e2; injection e2 with e2 e4
      subst e1 e2 e4
      exact Tk.cut _ (if_neg (hn _ e3))
  · rcases e1 with e1 | ⟨l, e1, e3⟩
    · rw [e1]; exact Tk.bad _
    · subst e1
      cases l with
      | nil => exact Tk.cut _ rfl
      | cons m q => cases e3
theorem MnF.next {α : Type} {tk : Tak α} {st st' : Option (List Int)} {n : Int} {k : Nat} {xs : List α} {r : List Int} {x : α} (h : MnF tk st n k xs (some r)) (h2 : Tk tk (some r) x st') (hk : (k : Int) < n) : MnF tk st n (k + 1) (xs ++ [x]) st' := by
  obtain ⟨l, e1, e2, e3, e4⟩ := h.2 r rfl
  have h5 := e4.snoc h2
  refine ⟨fun e ys => ?_, fun r' e => ⟨l, e1, e2, e3, e ▸ h5⟩⟩
  subst e1 e
  exact Tk.cnt e2 e3 (h5.over ys (by omega))
theorem MnF.done {α : Type} {tk : Tak α} {st st' : Option (List Int)} {n : Int} {k : Nat} {xs : List α} (h : MnF tk st n k xs st') (hk : ¬ (k : Int) < n) (hk2 : k ≤ n.toNat) : Tk (tkCnt tk) st xs st' := by
  cases st' with
  | none => exact h.1 rfl xs
  | some r =>
    obtain ⟨l, e1, e2, e3, e4⟩ := h.2 r rfl
    subst e1
    obtain rfl : k = n.toNat := by omega
    exact Tk.cnt e2 e3 e4
theorem MnF.len {α : Type} {tk : Tak α} {st : Option (List Int)} {n : Int} {k : Nat} {xs : List α} {r : List Int} (h : MnF tk st n k xs (some r)) : ∃ l, st = some (n :: l) ∧ n.toNat ≤ l.length := by
  obtain ⟨l, e1, e2, e3, e4⟩ := h.2 r rfl
  exact ⟨l, e1, e3⟩
/-- Where the loop of enc.many[int] stands. -/
def mniRel (B g : Nat) (a0 : Addr) (st : Option (List Int)) (n : Int) (w : World) (v i : Value) (wr : World) : Prop :=
  ∃ (k : Nat) (xs : List Int) (st' : Option (List Int)), k ≤ n.toNat ∧ i = .int .i64 k ∧ wr.ownsRow w.heap.size 3 1 v k (xs.flatMap nuC) ∧ xs.length = k ∧ RdS B g a0 wr st' ∧ KpG w.heap.size g w wr ∧ MnF tkN st n k xs st'
set_option maxHeartbeats 8000000 in
set_option maxRecDepth 100000 in
theorem mni_any {B g : Nat} {a0 : Addr} {st : Option (List Int)} (w : World) (h : RdS B g a0 w st) (hE : ErG B a0 w) (hst : ∀ l, st = some l → l.length ≤ 1000000000) :
    Calls Tryd.prog 37 #[.pointer (some ⟨g, 0, none⟩), .func (.func 38) #[.pointer (some ⟨g, 0, none⟩)] #[]] w (TkR (tkCnt tkN) (fun W v xs => OwnI w.heap.size W v xs) B g a0 st w) := by
  obtain ⟨i0, hi, hz0, hz1, hz2⟩ := info_parts info_nu
  have HB := Lib.hid h.1
  have HN := Lib.hid (number_any w h hE)
  have HE := Lib.hid (fun W (hW : KpG w.heap.size g w W) => hE.below (hW.below h.1 h.base))
  have HST := Lib.hid hst
  have hsz := h.base
  have HTK := Lib.hid (fun W (st' : Option (List Int)) (hR : RdS B g a0 W st') (hW : KpG w.heap.size g w W) => number_any W hR (HE.out W hW))
  clear h hE hst
  go_enter Tryd.func37, Tryd.ntmps37
  go_wp2_with (go_at_call 38; refine HN.out.mono ?_)
  rintro e w1 ⟨_, n, st1, rfl, rfl, ht, hr, hk⟩
  have HT := Lib.hid ht
  have HR := Lib.hid hr
  have HK := Lib.hid hk
  have HE1 := Lib.hid (HE.out w1 hk)
  obtain ⟨-, vl, ev, l, hbx, hil, hst1⟩ := id hr
  obtain ⟨Al, cl, rfl, gl1, gl2, -⟩ := hil
  unfold maxLen at gl2
  have c0 := hbx.cell 0 _ rfl
  have c1 := hbx.cell 1 _ rfl
  obtain ⟨el, ce, hbe⟩ := HE1.out.cCount
  have HKP := Lib.hid (keep_any w1 hr hbe)
  obtain ⟨ae, rfl, _⟩ := hbe
  have HGO := Lib.hid (fun (h0 : 0 ≤ n) (h1 : n.toNat ≤ l.length) => show MnF tkN st n 0 [] st1 from by
    rcases hst1 with ⟨rfl, _⟩ | ⟨rfl, _⟩
    · exact MnF.start HT.out h0 h1
    · exact MnF.bad HT.out (fun l e => by cases e))
  have HBD := Lib.hid (fun (hn : ¬ (0 ≤ n ∧ n.toNat ≤ l.length)) => show MnF tkN st n 0 [] none from MnF.bad HT.out (fun l' e => by
    rcases hst1 with ⟨rfl, _⟩ | ⟨rfl, _⟩
    · injection e with e; subst e; exact hn
    · cases e))
  unfold erV at ce HKP
  clear HN ht hr hk hst1 HT HE1
  obtain ⟨b, hb⟩ : ∃ b, b = decide (¬ (0 ≤ n ∧ n.toNat ≤ l.length)) := ⟨_, rfl⟩
  have HBB := Lib.hid hb
  clear hb
  go_upto_region 2 with fail
  go_cut [19] (fun s W => s = .bool b ∧ W = w1)
  case first =>
    by_cases hn : 0 ≤ n ∧ n.toNat ≤ l.length
    · have t1 : ¬ n < 0 := by omega
      have t2 : ¬ n > (l.length : Int) := by omega
      have d1 : decide (n < 0) = false := decide_eq_false t1
      have d2 : decide (n > (l.length : Int)) = false := decide_eq_false t2
      have d3 : decide ((l.length : Int) < n) = false := decide_eq_false (by omega)
      have HM := Lib.hid (HBB.out.trans (decide_eq_false (fun h => h hn)))
      clear HGO HBD HKP hn
      go_wp2_with fail
      go_meet
      exact ⟨by rw [HM.out], rfl⟩
    · have HM := Lib.hid (HBB.out.trans (decide_eq_true hn))
      by_cases t1 : n < 0
      · have d1 : decide (n < 0) = true := decide_eq_true t1
        clear HGO HBD hn HKP
        go_wp2_with fail
        go_meet
        exact ⟨by rw [HM.out], rfl⟩
      · have t2 : n > (l.length : Int) := by omega
        have d1 : decide (n < 0) = false := decide_eq_false t1
        have d2 : decide (n > (l.length : Int)) = true := decide_eq_true t2
        have d3 : decide ((l.length : Int) < n) = true := decide_eq_true (by omega)
        clear HGO HBD hn HKP
        go_wp2_with fail
        go_meet
        exact ⟨by rw [HM.out], rfl⟩
  case rest =>
  obtain ⟨rfl, rfl⟩ := hcut
  go_upto_if 19 with fail
  go_cut [] (fun W => ∃ st2, RdS B g a0 W st2 ∧ KpG w.heap.size g w W ∧ MnF tkN st n 0 [] st2)
  case first =>
    cases b
    · have HM := Lib.hid (HGO.out (by have := HBB.out; simp at this; omega) (by have := HBB.out; simp at this; omega))
      go_wp2_with fail
      go_meet
      exact ⟨_, HR.out, HK.out, HM.out⟩
    · have HM := Lib.hid (HBD.out (by have := HBB.out; simp at this; omega))
      clear HGO HBD HBB
      go_wp2_with (go_at_call 41; refine HKP.out.mono ?_)
      rintro e w2 ⟨rfl, hr2, hk2⟩
      have HK2 := Lib.hid (HK.out.trans (hk2.mono HK.out.size))
      clear hk2 HK HKP HR
      go_wp2_with fail
      go_meet
      exact ⟨_, hr2, HK2.out, HM.out⟩
  case rest =>
  obtain ⟨st2, hr2, hk2, hm2⟩ := hcut
  clear HR HK hbx c0 c1 ce HKP HGO HBD HBB
  have HSTART := Lib.hid (show mniRel B g a0 st n w (.slice none 0 0) (.int .i64 0) wc from ⟨0, [], st2, Nat.zero_le _, rfl, World.ownsRow_nil _ _ _ _, rfl, hr2, hk2, hm2⟩)
  clear hr2 hk2 hm2
  go_wp2
  go_loopw [6, 24] (fun v i wr => mniRel B g a0 st n w v i wr) (fun _ i _ => n.toNat - (intOf i).toNat)
  case atStart => exact HSTART.out
  case round =>
    clear HSTART
    obtain ⟨k, xs, st', hk, rfl, hown, hxl, hr, hK, hm⟩ := hrel
    by_cases hlt : (k : Int) < n
    · have d1 : decide ((k : Int) < n) = true := decide_eq_true hlt
      obtain ⟨-, vl, ev, l, hbx, hil, hst1⟩ := id hr
      obtain ⟨Al, cl, rfl, -⟩ := hil
      have c1 := hbx.cell 1 _ rfl
      rcases hst1 with ⟨rfl, rfl⟩ | ⟨rfl, ⟨ae, rfl, _⟩⟩
      · have HC := Lib.hid (HTK.out wr (some l) hr hK)
        obtain ⟨l0, hl0, hln⟩ := hm.len
        have hlm := HST.out _ hl0
        rw [List.length_cons] at hlm
        have HM := Lib.hid (fun x st3 (ht : Tk tkN (some l) x st3) => hm.next ht hlt)
        have HO := Lib.hid hown
        have HBX := Lib.hid hbx
        have HK := Lib.hid hK
        have HXL := Lib.hid hxl
        have hsk := hK.size
        clear hr hK hm hown hbx hl0 hxl
        go_wp2_with fail
        refine HC.out.mono ?_
        rintro e wa ⟨_, x, st3, rfl, rfl, ht, hr3, hk3⟩
        have HM2 := Lib.hid (HM.out x st3 ht)
        have HK3 := Lib.hid (HK.out.trans (hk3.mono hsk))
        have hOa := own_kp HO.out HBX.out (by decide) hk3
        have HR3 := Lib.hid (hr3.al (.cells #[.int .i64 x] 3))
        have hsz3 := HK3.out.size
        clear HC HM HK HO HBX ht hr3 hk3 c1
        go_wp2_with (at_builtin; refine wpList_append_own _ rfl _ _ 22 rfl w.heap.size 3 i0 (.int .i64 0) 1 8 Tryd.underlying22 hi hz0 hz1 hz2 rfl (by decide) _ _ _ rfl (hOa.alloc _) ⟨wa.heap.size, 0, none⟩ 1 1 [.int .i64 x] rfl rfl (news_new _ _ _) (by simp [Value.oneCell']) (by unfold maxLen; omega) (by omega) (by simp; omega) ?_; intro v1 w1 hown1 hg1 _)
        have HOW := Lib.hid (hOa.alloc (.cells #[.int .i64 x] 3))
        have HR4 := Lib.hid (HR3.out.app HOW.out hsz (by decide) hg1)
        have HK4 := Lib.hid ((HK3.out.al (Nat.le_refl _) (.cells #[.int .i64 x] 3)).app (Nat.le_refl _) HOW.out (Nat.le_refl _) hg1)
        clear HK3 HOW HR3 hOa hg1
        go_roundw
        case rel => exact ⟨k + 1, xs ++ [x], st3, by omega, by go_num, by rw [List.flatMap_append]; simpa [nuC] using hown1, by rw [List.length_append, HXL.out]; rfl, HR4.out, HK4.out, HM2.out⟩
        case measure => simp [intOf]; omega
      · unfold erV at c1
        have HM := Lib.hid (hm.1 rfl [])
        clear hm hown
        go_wp2
        go_ret
        exact ⟨_, [], none, rfl, World.ownsRow_nil _ _ _ _, HM.out, hr, hK⟩
    · have d1 : decide ((k : Int) < n) = false := decide_eq_false hlt
      have HM := Lib.hid (hm.done hlt hk)
      subst hxl
      clear hm
      go_wp2
      go_ret
      exact ⟨_, xs, st', rfl, hown, HM.out, hr, hK⟩
/-- Where the loop of enc.many[fencepost/api.Write] stands. -/
def mnwRel (B g : Nat) (a0 : Addr) (st : Option (List Int)) (n : Int) (w : World) (v i : Value) (wr : World) : Prop :=
  ∃ (k : Nat) (xs : List Wr) (st' : Option (List Int)), k ≤ n.toNat ∧ i = .int .i64 k ∧ wr.ownsRow w.heap.size 41 2 v k (xs.flatMap wrC) ∧ xs.length = k ∧ RdS B g a0 wr st' ∧ KpG w.heap.size g w wr ∧ MnF tkW st n k xs st'
set_option maxHeartbeats 8000000 in
set_option maxRecDepth 100000 in
theorem mnw_any {B g : Nat} {a0 : Addr} {st : Option (List Int)} (w : World) (h : RdS B g a0 w st) (hE : ErG B a0 w) (hst : ∀ l, st = some l → l.length ≤ 1000000000) :
    Calls Tryd.prog 55 #[.pointer (some ⟨g, 0, none⟩), .func (.func 56) #[.pointer (some ⟨g, 0, none⟩)] #[]] w (TkR (tkCnt tkW) (fun W v xs => OwnW w.heap.size W v xs) B g a0 st w) := by
  obtain ⟨i0, hi, hz0, hz1, hz2⟩ := info_parts info_wr
  have HB := Lib.hid h.1
  have HN := Lib.hid (number_any w h hE)
  have HE := Lib.hid (fun W (hW : KpG w.heap.size g w W) => hE.below (hW.below h.1 h.base))
  have HST := Lib.hid hst
  have hsz := h.base
  have HTK := Lib.hid (fun W (st' : Option (List Int)) (hR : RdS B g a0 W st') (hW : KpG w.heap.size g w W) => write_any W hR (HE.out W hW))
  clear h hE hst
  go_enter Tryd.func55, Tryd.ntmps55
  go_wp2_with (go_at_call 38; refine HN.out.mono ?_)
  rintro e w1 ⟨_, n, st1, rfl, rfl, ht, hr, hk⟩
  have HT := Lib.hid ht
  have HR := Lib.hid hr
  have HK := Lib.hid hk
  have HE1 := Lib.hid (HE.out w1 hk)
  obtain ⟨-, vl, ev, l, hbx, hil, hst1⟩ := id hr
  obtain ⟨Al, cl, rfl, gl1, gl2, -⟩ := hil
  unfold maxLen at gl2
  have c0 := hbx.cell 0 _ rfl
  have c1 := hbx.cell 1 _ rfl
  obtain ⟨el, ce, hbe⟩ := HE1.out.cCount
  have HKP := Lib.hid (keep_any w1 hr hbe)
  obtain ⟨ae, rfl, _⟩ := hbe
  have HGO := Lib.hid (fun (h0 : 0 ≤ n) (h1 : n.toNat ≤ l.length) => show MnF tkW st n 0 [] st1 from by
    rcases hst1 with ⟨rfl, _⟩ | ⟨rfl, _⟩
    · exact MnF.start HT.out h0 h1
    · exact MnF.bad HT.out (fun l e => by cases e))
  have HBD := Lib.hid (fun (hn : ¬ (0 ≤ n ∧ n.toNat ≤ l.length)) => show MnF tkW st n 0 [] none from MnF.bad HT.out (fun l' e => by
    rcases hst1 with ⟨rfl, _⟩ | ⟨rfl, _⟩
    · injection e with e; subst e; exact hn
    · cases e))
  unfold erV at ce HKP
  clear HN ht hr hk hst1 HT HE1
  obtain ⟨b, hb⟩ : ∃ b, b = decide (¬ (0 ≤ n ∧ n.toNat ≤ l.length)) := ⟨_, rfl⟩
  have HBB := Lib.hid hb
  clear hb
  go_upto_region 2 with fail
  go_cut [19] (fun s W => s = .bool b ∧ W = w1)
  case first =>
    by_cases hn : 0 ≤ n ∧ n.toNat ≤ l.length
    · have t1 : ¬ n < 0 := by omega
      have t2 : ¬ n > (l.length : Int) := by omega
      have d1 : decide (n < 0) = false := decide_eq_false t1
      have d2 : decide (n > (l.length : Int)) = false := decide_eq_false t2
      have d3 : decide ((l.length : Int) < n) = false := decide_eq_false (by omega)
      have HM := Lib.hid (HBB.out.trans (decide_eq_false (fun h => h hn)))
      clear HGO HBD HKP hn
      go_wp2_with fail
      go_meet
      exact ⟨by rw [HM.out], rfl⟩
    · have HM := Lib.hid (HBB.out.trans (decide_eq_true hn))
      by_cases t1 : n < 0
      · have d1 : decide (n < 0) = true := decide_eq_true t1
        clear HGO HBD hn HKP
        go_wp2_with fail
        go_meet
        exact ⟨by rw [HM.out], rfl⟩
      · have t2 : n > (l.length : Int) := by omega
        have d1 : decide (n < 0) = false := decide_eq_false t1
        have d2 : decide (n > (l.length : Int)) = true := decide_eq_true t2
        have d3 : decide ((l.length : Int) < n) = true := decide_eq_true (by omega)
        clear HGO HBD hn HKP
        go_wp2_with fail
        go_meet
        exact ⟨by rw [HM.out], rfl⟩
  case rest =>
  obtain ⟨rfl, rfl⟩ := hcut
  go_upto_if 19 with fail
  go_cut [] (fun W => ∃ st2, RdS B g a0 W st2 ∧ KpG w.heap.size g w W ∧ MnF tkW st n 0 [] st2)
  case first =>
    cases b
    · have HM := Lib.hid (HGO.out (by have := HBB.out; simp at this; omega) (by have := HBB.out; simp at this; omega))
      go_wp2_with fail
      go_meet
      exact ⟨_, HR.out, HK.out, HM.out⟩
    · have HM := Lib.hid (HBD.out (by have := HBB.out; simp at this; omega))
      clear HGO HBD HBB
      go_wp2_with (go_at_call 41; refine HKP.out.mono ?_)
      rintro e w2 ⟨rfl, hr2, hk2⟩
      have HK2 := Lib.hid (HK.out.trans (hk2.mono HK.out.size))
      clear hk2 HK HKP HR
      go_wp2_with fail
      go_meet
      exact ⟨_, hr2, HK2.out, HM.out⟩
  case rest =>
  obtain ⟨st2, hr2, hk2, hm2⟩ := hcut
  clear HR HK hbx c0 c1 ce HKP HGO HBD HBB
  have HSTART := Lib.hid (show mnwRel B g a0 st n w (.slice none 0 0) (.int .i64 0) wc from ⟨0, [], st2, Nat.zero_le _, rfl, World.ownsRow_nil _ _ _ _, rfl, hr2, hk2, hm2⟩)
  clear hr2 hk2 hm2
  go_wp2
  go_loopw [6, 24] (fun v i wr => mnwRel B g a0 st n w v i wr) (fun _ i _ => n.toNat - (intOf i).toNat)
  case atStart => exact HSTART.out
  case round =>
    clear HSTART
    obtain ⟨k, xs, st', hk, rfl, hown, hxl, hr, hK, hm⟩ := hrel
    by_cases hlt : (k : Int) < n
    · have d1 : decide ((k : Int) < n) = true := decide_eq_true hlt
      obtain ⟨-, vl, ev, l, hbx, hil, hst1⟩ := id hr
      obtain ⟨Al, cl, rfl, -⟩ := hil
      have c1 := hbx.cell 1 _ rfl
      rcases hst1 with ⟨rfl, rfl⟩ | ⟨rfl, ⟨ae, rfl, _⟩⟩
      · have HC := Lib.hid (HTK.out wr (some l) hr hK)
        obtain ⟨l0, hl0, hln⟩ := hm.len
        have hlm := HST.out _ hl0
        rw [List.length_cons] at hlm
        have HM := Lib.hid (fun x st3 (ht : Tk tkW (some l) x st3) => hm.next ht hlt)
        have HO := Lib.hid hown
        have HBX := Lib.hid hbx
        have HK := Lib.hid hK
        have HXL := Lib.hid hxl
        have hsk := hK.size
        clear hr hK hm hown hbx hl0 hxl
        go_wp2_with fail
        refine HC.out.mono ?_
        rintro e wa ⟨_, x, st3, rfl, rfl, ht, hr3, hk3⟩
        have HM2 := Lib.hid (HM.out x st3 ht)
        have HK3 := Lib.hid (HK.out.trans (hk3.mono hsk))
        have hOa := own_kp HO.out HBX.out (by decide) hk3
        have HR3 := Lib.hid (hr3.al (.cells #[.int .i64 x.loc, .int .i64 x.n] 41))
        have hsz3 := HK3.out.size
        clear HC HM HK HO HBX ht hr3 hk3 c1
        go_wp2_with (at_builtin; refine wpList_append_own _ rfl _ _ 42 rfl w.heap.size 41 i0 (.agg #[.int .i64 0, .int .i64 0]) 2 16 Tryd.underlying42 hi hz0 hz1 hz2 rfl (by decide) _ _ _ rfl (hOa.alloc _) ⟨wa.heap.size, 0, none⟩ 1 1 [.int .i64 x.loc, .int .i64 x.n] rfl rfl (news_new _ _ _) (by simp [Value.oneCell']) (by unfold maxLen; omega) (by omega) (by simp; omega) ?_; intro v1 w1 hown1 hg1 _)
        have HOW := Lib.hid (hOa.alloc (.cells #[.int .i64 x.loc, .int .i64 x.n] 41))
        have HR4 := Lib.hid (HR3.out.app HOW.out hsz (by decide) hg1)
        have HK4 := Lib.hid ((HK3.out.al (Nat.le_refl _) (.cells #[.int .i64 x.loc, .int .i64 x.n] 41)).app (Nat.le_refl _) HOW.out (Nat.le_refl _) hg1)
        clear HK3 HOW HR3 hOa hg1
        go_roundw
        case rel => exact ⟨k + 1, xs ++ [x], st3, by omega, by go_num, by rw [List.flatMap_append]; simpa [wrC] using hown1, by rw [List.length_append, HXL.out]; rfl, HR4.out, HK4.out, HM2.out⟩
        case measure => simp [intOf]; omega
      · unfold erV at c1
        have HM := Lib.hid (hm.1 rfl [])
        clear hm hown
        go_wp2
        go_ret
        exact ⟨_, [], none, rfl, World.ownsRow_nil _ _ _ _, HM.out, hr, hK⟩
    · have d1 : decide ((k : Int) < n) = false := decide_eq_false hlt
      have HM := Lib.hid (hm.done hlt hk)
      subst hxl
      clear hm
      go_wp2
      go_ret
      exact ⟨_, xs, st', rfl, hown, HM.out, hr, hK⟩
end Go.Proofs.YtmpjcfehabnhgaaDoor
namespace Go.Proofs.YtmpjcfehabnhgaaDoor
open Go.RowKit
set_option linter.unusedVariables false
set_option linter.unusedSimpArgs false
open BfM (Wr)
open ScM
open EnM

theorem RdS.keep {B g base T s m : Nat} {a0 : Addr} {W W' : World} {st : Option (List Int)} {v : Value} {xs : List Value} (h : RdS B g a0 W st) (ho : W.ownsRow base T s v m xs) (hT : T ≠ 48) (hk : KpG W.heap.size g W W') : W'.ownsRow base T s v m xs := by
  obtain ⟨_, vl, e, l, hb, _⟩ := h
  exact own_kp ho hb hT hk
/-- A thread whose rows are the call's own. -/
def repT (base : Nat) (W : World) (v : Value) (t : Th) : Prop := ∃ vr vb, v = .agg #[.int .i64 t.at', vr, .bool t.eq, vb] ∧ OwnI base W vr t.regs ∧ OwnW base W vb t.buf
set_option maxHeartbeats 8000000 in
set_option maxRecDepth 100000 in
theorem thread_any {B g : Nat} {a0 : Addr} {st : Option (List Int)} (w : World) (h : RdS B g a0 w st) (hE : ErG B a0 w) (hst : ∀ l, st = some l → l.length ≤ 1000000000) :
    Calls Tryd.prog 40 #[.pointer (some ⟨g, 0, none⟩)] w (TkR tkTh (repT w.heap.size) B g a0 st w) := by
  have HB := Lib.hid h.1
  have hsz := h.base
  have hne : w.heap.size ≠ g := fun e => by have := h.lt; omega
  have HST := Lib.hid hst
  have hbx := BoxC.new w 44 #[.int .i64 0, .slice none 0 0, .bool false, .slice none 0 0]
  have hk0 := (KpG.refl w.heap.size g w).al (Nat.le_refl _) (.cells #[.int .i64 0, .slice none 0 0, .bool false, .slice none 0 0] 44)
  have HE := Lib.hid (fun W (hW : KpG w.heap.size g w W) => hE.below (hW.below h.1 h.base))
  have HN := Lib.hid (number_any _ (h.al (.cells #[.int .i64 0, .slice none 0 0, .bool false, .slice none 0 0] 44)) (HE.out _ hk0))
  clear h hE hst
  go_enter Tryd.func40, Tryd.ntmps40
  go_wp2_with (go_at_call 38; refine HN.out.mono ?_)
  rintro e w1 ⟨_, n, st1, rfl, rfl, ht, hr, hk⟩
  have hk1 := hk0.trans (hk.mono hk0.size)
  have hb1 := hbx.kp hk hne
  have HT1 := Lib.hid ht
  have HN := Lib.hid (truth_any w1 hr (HE.out _ hk1))
  clear ht hr hk hbx hk0
  go_wp2_with (go_at_call 54; refine HN.out.mono ?_)
  rintro e w2 ⟨_, q, st2, rfl, rfl, ht, hr, hk⟩
  have hk2 := hk1.trans (hk.mono hk1.size)
  have hb2 := hb1.kp hk hne
  have HT2 := Lib.hid (Tk.two Prod.mk HT1.out ht)
  have HL2 := Lib.hid (show ∀ l, st2 = some l → l.length ≤ 1000000000 from fun l e => (by
    subst e
    obtain ⟨l0, h1, h2⟩ := tk2_len HT2.out
    exact Nat.le_trans h2 (HST.out _ h1)))
  have HN := Lib.hid (mni_any w2 hr (HE.out _ hk2) HL2.out)
  clear ht hr hk hb1 hk1 HT1
  go_wp2_with (go_at_call 37; refine HN.out.mono ?_)
  rintro e w3 ⟨vr, rg, st3, rfl, hor, ht, hr, hk⟩
  have hk3 := hk2.trans (hk.mono hk2.size)
  have hb3 := hb2.kp hk hne
  have HOR := Lib.hid (own_base (show w3.ownsRow w2.heap.size 3 1 vr rg.length (rg.flatMap nuC) from hor) hk2.size)
  have HT3 := Lib.hid (ht.congr tkRow_cnt)
  have HL3 := Lib.hid (show ∀ l, st3 = some l → l.length ≤ 1000000000 from fun l e => (by
    subst e
    obtain ⟨l0, h1, h2⟩ := tkR_len HT3.out
    exact Nat.le_trans h2 (HL2.out _ h1)))
  have HRD := Lib.hid hr
  have HN := Lib.hid (mnw_any w3 hr (HE.out _ hk3) HL3.out)
  obtain ⟨Ar, cr, rfl⟩ := own_slice hor
  clear ht hr hk hb2 hk2 hor HL2 HL3
  go_wp2_with (go_at_call 55; refine HN.out.mono ?_)
  rintro e w4 ⟨vb, bf, st4, rfl, hob, ht, hr, hk⟩
  have HK4 := Lib.hid (hk3.trans (hk.mono hk3.size))
  have hb4 := hb3.kp hk hne
  have HOB := Lib.hid (own_base (show w4.ownsRow w3.heap.size 41 2 vb bf.length (bf.flatMap wrC) from hob) hk3.size)
  have HOR4 := Lib.hid (HRD.out.keep HOR.out (by decide) hk)
  have HT4 := Lib.hid ((Tk.two mkTh HT2.out (Tk.two Prod.mk HT3.out (ht.congr tkBuf_cnt))).congr tkTh_two)
  obtain ⟨Ab, cb, rfl⟩ := own_slice hob
  have HR := Lib.hid hr
  have f0 := hb4.frozen 0
  have f1 := hb4.frozen 1
  have f2 := hb4.frozen 2
  have f3 := hb4.frozen 3
  have d0 := hb4.cell 0 _ rfl
  have d1 := hb4.cell 1 _ rfl
  have d2 := hb4.cell 2 _ rfl
  have d3 := hb4.cell 3 _ rfl
  clear ht hr hk hb3 hk3 hob HRD HOR HN HT2 HT3
  obtain ⟨W9, hW9⟩ : ∃ W, W = (((w4.setCell ⟨w.heap.size, 0, none⟩ (.int .i64 n)).setCell ⟨w.heap.size, 1, none⟩ (.slice Ar rg.length cr)).setCell ⟨w.heap.size, 2, none⟩ (.bool q)).setCell ⟨w.heap.size, 3, none⟩ (.slice Ab bf.length cb) := ⟨_, rfl⟩
  have HB9 := Lib.hid (show BoxC W9 w.heap.size 44 #[.int .i64 n, .slice Ar rg.length cr, .bool q, .slice Ab bf.length cb] from by rw [hW9]; exact (((hb4.set 0 _).set 1 _).set 2 _).set 3 _)
  have HR9 := Lib.hid (show RdS B g a0 W9 st4 from by rw [hW9]; exact (((HR.out.set hsz (fun e => hne e.symm)).set hsz (fun e => hne e.symm)).set hsz (fun e => hne e.symm)).set hsz (fun e => hne e.symm))
  have HK9 := Lib.hid (show KpG w.heap.size g w W9 from by rw [hW9]; exact (((HK4.out.set2 (Nat.le_refl _) 0 _).set2 (Nat.le_refl _) 1 _).set2 (Nat.le_refl _) 2 _).set2 (Nat.le_refl _) 3 _)
  have HX := Lib.hid (show w4.ownsRow w.heap.size 3 1 (.slice Ar rg.length cr) rg.length (rg.flatMap nuC) → W9.ownsRow w.heap.size 3 1 (.slice Ar rg.length cr) rg.length (rg.flatMap nuC) from fun ho => by
    rw [hW9]; exact own_box (own_box (own_box (own_box ho hb4 (by decide) 0 _) (hb4.set 0 _) (by decide) 1 _) ((hb4.set 0 _).set 1 _) (by decide) 2 _) (((hb4.set 0 _).set 1 _).set 2 _) (by decide) 3 _)
  have HY := Lib.hid (show w4.ownsRow w.heap.size 41 2 (.slice Ab bf.length cb) bf.length (bf.flatMap wrC) → W9.ownsRow w.heap.size 41 2 (.slice Ab bf.length cb) bf.length (bf.flatMap wrC) from fun ho => by
    rw [hW9]; exact own_box (own_box (own_box (own_box ho hb4 (by decide) 0 _) (hb4.set 0 _) (by decide) 1 _) ((hb4.set 0 _).set 1 _) (by decide) 2 _) (((hb4.set 0 _).set 1 _).set 2 _) (by decide) 3 _)
  have HW9 := Lib.hid hW9
  clear hW9
  have hz : Tryd.prog.cellsOf 44 = 4 := by kernel_rfl
  go_wp2_with fail
  rw [← HW9.out]
  clear d0 d1 d2 d3 f0 f1 f2 f3
  have r0 := HB9.out.cell 0 _ rfl
  have r1 := HB9.out.cell 1 _ rfl
  have r2 := HB9.out.cell 2 _ rfl
  have r3 := HB9.out.cell 3 _ rfl
  refine bodyPost_ret (v := .agg #[.int .i64 n, .slice Ar rg.length cr, .bool q, .slice Ab bf.length cb]) (by simp [results, Tryd.results40, go_sem, r0, r1, r2, r3, hz]) rfl ?_
  exact ⟨_, ⟨n, rg, q, bf⟩, st4, rfl, ⟨_, _, rfl, HX.out HOR4.out, HY.out HOB.out⟩, HT4.out, HR9.out, HK9.out⟩
/-- Threads in a row of the call's own, and their rows. -/
def ThO (base : Nat) (W : World) (v : Value) (xs : List Th) : Prop :=
  ∃ ps : List TV, W.ownsRow base 44 4 v xs.length (ps.flatMap thC) ∧ ps.map (·.t) = xs ∧ ∀ p ∈ ps, OwnI base W p.vr p.t.regs ∧ OwnW base W p.vb p.t.buf
theorem ThO.nil (base : Nat) (W : World) : ThO base W (.slice none 0 0) [] := ⟨[], World.ownsRow_nil _ _ _ _, rfl, fun p hp => by cases hp⟩
theorem ThO.keep {B g base : Nat} {a0 : Addr} {W W' : World} {st : Option (List Int)} {v : Value} {xs : List Th} (h : ThO base W v xs) (hR : RdS B g a0 W st) (hk : KpG W.heap.size g W W') : ThO base W' v xs := by
  obtain ⟨ps, h1, h2, h3⟩ := h
  exact ⟨ps, hR.keep h1 (by decide) hk, h2, fun p hp => ⟨hR.keep (h3 p hp).1 (by decide) hk, hR.keep (h3 p hp).2 (by decide) hk⟩⟩
theorem ThO.below {base : Nat} {W W' : World} {v : Value} {xs : List Th} (h : ThO base W v xs) (hb : Below W.heap.size W W') : ThO base W' v xs := by
  obtain ⟨ps, h1, h2, h3⟩ := h
  exact ⟨ps, own_below h1 hb, h2, fun p hp => ⟨own_below (h3 p hp).1 hb, own_below (h3 p hp).2 hb⟩⟩
theorem ThO.base {a base : Nat} {W : World} {v : Value} {xs : List Th} (h : ThO base W v xs) (ha : a ≤ base) : ThO a W v xs := by
  obtain ⟨ps, h1, h2, h3⟩ := h
  exact ⟨ps, own_base h1 ha, h2, fun p hp => ⟨own_base (h3 p hp).1 ha, own_base (h3 p hp).2 ha⟩⟩
theorem ThO.slice {base : Nat} {W : World} {v : Value} {xs : List Th} (h : ThO base W v xs) : ∃ A c, v = .slice A xs.length c := by
  obtain ⟨ps, h1, _⟩ := h
  exact own_slice h1
/-- A store into a box. -/
theorem ThO.box {base g : Nat} {W : World} {T : TypeId} {cs : Array Value} {v : Value} {xs : List Th} (h : ThO base W v xs) (hbx : BoxC W g T cs) (h1 : (44 : TypeId) ≠ T) (h2 : (3 : TypeId) ≠ T) (h3 : (41 : TypeId) ≠ T) (i : Nat) (x : Value) :
    ThO base (W.setCell ⟨g, i, none⟩ x) v xs := by
  obtain ⟨ps, e1, e2, e3⟩ := h
  exact ⟨ps, own_box e1 hbx h1 i x, e2, fun p hp => ⟨own_box (e3 p hp).1 hbx h2 i x, own_box (e3 p hp).2 hbx h3 i x⟩⟩
/-- It reads as the threads. -/
theorem ThO.read {base B : Nat} {W : World} {v : Value} {xs : List Th} (h : ThO base W v xs) (hB : W.heap.size ≤ B) : ThR B W v xs := by
  obtain ⟨ps, ho, he, h3⟩ := h
  have hl : ps.length = xs.length := by rw [← he, List.length_map]
  rcases id ho.2 with ⟨e, h0⟩ | ⟨g, cap, cur, e, hbg, hg, hnc, hcm, hcs, htake⟩
  · exact ⟨none, 0, by rw [e, h0], by omega, by decide, fun _ => ⟨h0, rfl⟩, fun k => absurd k (by omega)⟩
  · subst e
    refine ⟨_, cap, rfl, hnc, hcm, fun e => (by cases e), fun _ => ⟨g, 0, rfl, by have := (Array.getElem?_eq_some_iff.1 hg).1; omega, fun j hj => ?_⟩⟩
    have hjp : j < ps.length := by omega
    have hc : ∀ i, i < 4 → W.cell? ⟨g, 0 + j * 4 + i, none⟩ = (thC ps[j])[i]? := fun i hi => by
      rw [Nat.zero_add, ho.cellAt (j * 4 + i) (by omega), fl_at thC_len ps j i hjp hi]
    have hte : xs[j] = ps[j].t := by
      have : (ps.map (·.t))[j]'(by simpa using hjp) = ps[j].t := by simp
      rw [← this]; congr 1; exact he.symm
    obtain ⟨e1, e2⟩ := h3 _ (List.getElem_mem hjp)
    rw [hte]
    exact ⟨_, _, hc 0 (by decide), hc 1 (by decide), hc 2 (by decide), hc 3 (by decide), Rw.own e1 hB, Rw.own e2 hB⟩
theorem MnF.left {st : Option (List Int)} {n : Int} {k : Nat} {xs : List Th} {r : List Int} (h : MnF tkTh st n k xs (some r)) : ∃ l, st = some (n :: l) ∧ n.toNat ≤ l.length ∧ r.length ≤ l.length := by
  obtain ⟨l, e1, e2, e3, e4⟩ := h.2 r rfl
  refine ⟨l, e1, e3, ?_⟩
  rcases e4 with ⟨l', r', d1, d2, d3⟩ | ⟨d1, d2⟩
  · injection d1 with d1
    injection d3 with d3
    subst d1 d3
    rw [tkThs_many] at d2
    have := congrArg List.length (tkThs_inv d2).2
    rw [List.length_append] at this
    omega
  · cases d2
def mntRel (B g : Nat) (a0 : Addr) (st : Option (List Int)) (n : Int) (w : World) (v i : Value) (wr : World) : Prop :=
  ∃ (k : Nat) (xs : List Th) (st' : Option (List Int)), k ≤ n.toNat ∧ i = .int .i64 k ∧ ThO w.heap.size wr v xs ∧ xs.length = k ∧ RdS B g a0 wr st' ∧ KpG w.heap.size g w wr ∧ MnF tkTh st n k xs st'
set_option maxHeartbeats 8000000 in
set_option maxRecDepth 100000 in
theorem mnt_any {B g : Nat} {a0 : Addr} {st : Option (List Int)} (w : World) (h : RdS B g a0 w st) (hE : ErG B a0 w) (hst : ∀ l, st = some l → l.length ≤ 1000000000) :
    Calls Tryd.prog 39 #[.pointer (some ⟨g, 0, none⟩), .func (.func 40) #[.pointer (some ⟨g, 0, none⟩)] #[]] w (TkR (tkCnt tkTh) (ThO w.heap.size) B g a0 st w) := by
  obtain ⟨i0, hi, hz0, hz1, hz2⟩ := info_parts info_th
  have HB := Lib.hid h.1
  have HN := Lib.hid (number_any w h hE)
  have HE := Lib.hid (fun W (hW : KpG w.heap.size g w W) => hE.below (hW.below h.1 h.base))
  have HST := Lib.hid hst
  have hsz := h.base
  have HTK := Lib.hid (fun W (st' : Option (List Int)) (hR : RdS B g a0 W st') (hW : KpG w.heap.size g w W) (hl : ∀ l, st' = some l → l.length ≤ 1000000000) => thread_any W hR (HE.out W hW) hl)
  clear h hE hst
  go_enter Tryd.func39, Tryd.ntmps39
  go_wp2_with (go_at_call 38; refine HN.out.mono ?_)
  rintro e w1 ⟨_, n, st1, rfl, rfl, ht, hr, hk⟩
  have HT := Lib.hid ht
  have HR := Lib.hid hr
  have HK := Lib.hid hk
  have HE1 := Lib.hid (HE.out w1 hk)
  obtain ⟨-, vl, ev, l, hbx, hil, hst1⟩ := id hr
  obtain ⟨Al, cl, rfl, gl1, gl2, -⟩ := hil
  unfold maxLen at gl2
  have c0 := hbx.cell 0 _ rfl
  have c1 := hbx.cell 1 _ rfl
  obtain ⟨el, ce, hbe⟩ := HE1.out.cCount
  have HKP := Lib.hid (keep_any w1 hr hbe)
  obtain ⟨ae, rfl, _⟩ := hbe
  have HGO := Lib.hid (fun (h0 : 0 ≤ n) (h1 : n.toNat ≤ l.length) => show MnF tkTh st n 0 [] st1 from by
    rcases hst1 with ⟨rfl, _⟩ | ⟨rfl, _⟩
    · exact MnF.start HT.out h0 h1
    · exact MnF.bad HT.out (fun l e => by cases e))
  have HBD := Lib.hid (fun (hn : ¬ (0 ≤ n ∧ n.toNat ≤ l.length)) => show MnF tkTh st n 0 [] none from MnF.bad HT.out (fun l' e => by
    rcases hst1 with ⟨rfl, _⟩ | ⟨rfl, _⟩
    · injection e with e; subst e; exact hn
    · cases e))
  unfold erV at ce HKP
  clear HN ht hr hk hst1 HT HE1
  obtain ⟨b, hb⟩ : ∃ b, b = decide (¬ (0 ≤ n ∧ n.toNat ≤ l.length)) := ⟨_, rfl⟩
  have HBB := Lib.hid hb
  clear hb
  go_upto_region 2 with fail
  go_cut [19] (fun s W => s = .bool b ∧ W = w1)
  case first =>
    by_cases hn : 0 ≤ n ∧ n.toNat ≤ l.length
    · have t1 : ¬ n < 0 := by omega
      have t2 : ¬ n > (l.length : Int) := by omega
      have d1 : decide (n < 0) = false := decide_eq_false t1
      have d2 : decide (n > (l.length : Int)) = false := decide_eq_false t2
      have d3 : decide ((l.length : Int) < n) = false := decide_eq_false (by omega)
      have HM := Lib.hid (HBB.out.trans (decide_eq_false (fun h => h hn)))
      clear HGO HBD HKP hn
      go_wp2_with fail
      go_meet
      exact ⟨by rw [HM.out], rfl⟩
    · have HM := Lib.hid (HBB.out.trans (decide_eq_true hn))
      by_cases t1 : n < 0
      · have d1 : decide (n < 0) = true := decide_eq_true t1
        clear HGO HBD hn HKP
        go_wp2_with fail
        go_meet
        exact ⟨by rw [HM.out], rfl⟩
      · have t2 : n > (l.length : Int) := by omega
        have d1 : decide (n < 0) = false := decide_eq_false t1
        have d2 : decide (n > (l.length : Int)) = true := decide_eq_true t2
        have d3 : decide ((l.length : Int) < n) = true := decide_eq_true (by omega)
        clear HGO HBD hn HKP
        go_wp2_with fail
        go_meet
        exact ⟨by rw [HM.out], rfl⟩
  case rest =>
  obtain ⟨rfl, rfl⟩ := hcut
  go_upto_if 19 with fail
  go_cut [] (fun W => ∃ st2, RdS B g a0 W st2 ∧ KpG w.heap.size g w W ∧ MnF tkTh st n 0 [] st2)
  case first =>
    cases b
    · have HM := Lib.hid (HGO.out (by have := HBB.out; simp at this; omega) (by have := HBB.out; simp at this; omega))
      go_wp2_with fail
      go_meet
      exact ⟨_, HR.out, HK.out, HM.out⟩
    · have HM := Lib.hid (HBD.out (by have := HBB.out; simp at this; omega))
      clear HGO HBD HBB
      go_wp2_with (go_at_call 41; refine HKP.out.mono ?_)
      rintro e w2 ⟨rfl, hr2, hk2⟩
      have HK2 := Lib.hid (HK.out.trans (hk2.mono HK.out.size))
      clear hk2 HK HKP HR
      go_wp2_with fail
      go_meet
      exact ⟨_, hr2, HK2.out, HM.out⟩
  case rest =>
  obtain ⟨st2, hr2, hk2, hm2⟩ := hcut
  clear HR HK hbx c0 c1 ce HKP HGO HBD HBB
  have HSTART := Lib.hid (show mntRel B g a0 st n w (.slice none 0 0) (.int .i64 0) wc from ⟨0, [], st2, Nat.zero_le _, rfl, ThO.nil _ _, rfl, hr2, hk2, hm2⟩)
  clear hr2 hk2 hm2
  go_wp2
  go_loopw [6, 24] (fun v i wr => mntRel B g a0 st n w v i wr) (fun _ i _ => n.toNat - (intOf i).toNat)
  case atStart => exact HSTART.out
  case round =>
    clear HSTART
    obtain ⟨k, xs, st', hk, rfl, hown, hxl, hr, hK, hm⟩ := hrel
    by_cases hlt : (k : Int) < n
    · have d1 : decide ((k : Int) < n) = true := decide_eq_true hlt
      obtain ⟨-, vl, ev, l, hbx, hil, hst1⟩ := id hr
      obtain ⟨Al, cl, rfl, -⟩ := hil
      have c1 := hbx.cell 1 _ rfl
      rcases hst1 with ⟨rfl, rfl⟩ | ⟨rfl, ⟨ae, rfl, _⟩⟩
      · obtain ⟨l0, hl0, hln, hll⟩ := hm.left
        have hlm := HST.out _ hl0
        rw [List.length_cons] at hlm
        have HC := Lib.hid (HTK.out wr (some l) hr hK (fun l' e => by injection e with e; subst e; omega))
        have HM := Lib.hid (fun x st3 (ht : Tk tkTh (some l) x st3) => hm.next ht hlt)
        have HO := Lib.hid hown
        have HR := Lib.hid hr
        have HK := Lib.hid hK
        have HXL := Lib.hid hxl
        have hsk := hK.size
        obtain ⟨A9, c9, rfl⟩ := hown.slice
        clear hr hK hm hown hbx hl0 hxl
        go_wp2_with fail
        refine HC.out.mono ?_
        rintro e wa ⟨_, x, st3, rfl, ⟨vr, vb, rfl, hvr, hvb⟩, ht, hr3, hk3⟩
        obtain ⟨xa, xr, xe, xb⟩ := x
        have HM2 := Lib.hid (HM.out _ st3 ht)
        have HK3 := Lib.hid (HK.out.trans (hk3.mono hsk))
        obtain ⟨ps, ho, he, hps⟩ := HO.out.keep HR.out hk3
        rw [HXL.out] at ho
        rw [HXL.out]
        have HPS := Lib.hid hps
        have HEQ := Lib.hid he
        have HVR := Lib.hid (own_base hvr hsk)
        have HVB := Lib.hid (own_base hvb hsk)
        obtain ⟨A7, c7, rfl⟩ := own_slice hvr
        obtain ⟨A8, c8, rfl⟩ := own_slice hvb
        dsimp only at HVR HVB
        have hbA := below_al (Below.refl wa.heap.size wa) (.cells #[.int .i64 xa, .slice A7 xr.length c7, .bool xe, .slice A8 xb.length c8] 44)
        have HR3 := Lib.hid (hr3.al (.cells #[.int .i64 xa, .slice A7 xr.length c7, .bool xe, .slice A8 xb.length c8] 44))
        have hsz3 := HK3.out.size
        clear HC HM HK HO HR ht hr3 hk3 c1 hps he hvr hvb
        go_wp2_with (at_builtin; refine wpList_append_own _ rfl _ _ 23 rfl w.heap.size 44 i0 (.agg #[.int .i64 0, .slice none 0 0, .bool false, .slice none 0 0]) 4 64 Tryd.underlying23 hi hz0 hz1 hz2 rfl (by decide) _ _ _ rfl (ho.alloc _) ⟨wa.heap.size, 0, none⟩ 1 1 [.int .i64 xa, .slice A7 xr.length c7, .bool xe, .slice A8 xb.length c8] rfl rfl (news_new _ _ _) (by simp [Value.oneCell']) (by unfold maxLen; omega) (by omega) (by simp; omega) ?_; intro v1 w1 hown1 hg1 _)
        have HOW := Lib.hid (ho.alloc (.cells #[.int .i64 xa, .slice A7 xr.length c7, .bool xe, .slice A8 xb.length c8] 44))
        have HR4 := Lib.hid (HR3.out.app HOW.out hsz (by decide) hg1)
        have HK4 := Lib.hid ((HK3.out.al (Nat.le_refl _) (.cells #[.int .i64 xa, .slice A7 xr.length c7, .bool xe, .slice A8 xb.length c8] 44)).app (Nat.le_refl _) HOW.out (Nat.le_refl _) hg1)
        have HTO := Lib.hid (show ThO w.heap.size w1 v1 (xs ++ [⟨xa, xr, xe, xb⟩]) from by
          refine ⟨ps ++ [⟨⟨xa, xr, xe, xb⟩, .slice A7 xr.length c7, .slice A8 xb.length c8⟩], ?_, by rw [List.map_append, HEQ.out]; rfl, fun p hp => ?_⟩
          · rw [List.length_append, HXL.out, List.flatMap_append]
            simpa [thC] using hown1
          · rcases List.mem_append.1 hp with hp | hp
            · exact ⟨own_grown (by decide) (own_below (HPS.out p hp).1 hbA) HOW.out hg1, own_grown (by decide) (own_below (HPS.out p hp).2 hbA) HOW.out hg1⟩
            · obtain rfl := List.mem_singleton.1 hp
              exact ⟨own_grown (by decide) (own_below HVR.out hbA) HOW.out hg1, own_grown (by decide) (own_below HVB.out hbA) HOW.out hg1⟩)
        clear HK3 HOW HR3 hg1 hown1 ho hbA HPS HVR HVB
        go_roundw
        case rel => exact ⟨k + 1, _, st3, by omega, by go_num, HTO.out, by rw [List.length_append, HXL.out]; rfl, HR4.out, HK4.out, HM2.out⟩
        case measure => simp [intOf]; omega
      · unfold erV at c1
        have HM := Lib.hid (hm.1 rfl [])
        clear hm hown
        go_wp2
        go_ret
        exact ⟨_, [], none, rfl, ThO.nil _ _, HM.out, hr, hK⟩
    · have d1 : decide ((k : Int) < n) = false := decide_eq_false hlt
      have HM := Lib.hid (hm.done hlt hk)
      subst hxl
      clear hm
      go_wp2
      go_ret
      exact ⟨_, xs, st', rfl, hown, HM.out, hr, hK⟩
end Go.Proofs.YtmpjcfehabnhgaaDoor
namespace Go.Proofs.YtmpjcfehabnhgaaDoor
open Go.RowKit
set_option linter.unusedVariables false
set_option linter.unusedSimpArgs false
open BfM (Wr)
open ScM
open EnM

/-- A state whose rows are the call's own. -/
def repS (base : Nat) (W : World) (v : Value) (s : Sta) : Prop := ∃ vm vt, v = .agg #[vm, vt] ∧ OwnI base W vm s.mem ∧ ThO base W vt s.ths
theorem repS.below {base : Nat} {W W' : World} {v : Value} {s : Sta} (h : repS base W v s) (hb : Below W.heap.size W W') : repS base W' v s := by
  obtain ⟨vm, vt, e, h1, h2⟩ := h
  exact ⟨vm, vt, e, own_below h1 hb, h2.below hb⟩
theorem repS.read {base B : Nat} {W : World} {v : Value} {s : Sta} (h : repS base W v s) (hB : W.heap.size ≤ B) : StaV B W v s := by
  obtain ⟨vm, vt, e, h1, h2⟩ := h
  exact ⟨vm, vt, e, Rw.own h1 hB, h2.read hB⟩
set_option maxHeartbeats 8000000 in
set_option maxRecDepth 100000 in
theorem state_any {B g : Nat} {a0 : Addr} {st : Option (List Int)} (w : World) (h : RdS B g a0 w st) (hE : ErG B a0 w) (hst : ∀ l, st = some l → l.length ≤ 1000000000) :
    Calls Tryd.prog 22 #[.pointer (some ⟨g, 0, none⟩)] w (TkR tkS (repS w.heap.size) B g a0 st w) := by
  have HB := Lib.hid h.1
  have hsz := h.base
  have hne : w.heap.size ≠ g := fun e => by have := h.lt; omega
  have hbx := BoxC.new w 25 #[.slice none 0 0, .slice none 0 0]
  have hk0 := (KpG.refl w.heap.size g w).al (Nat.le_refl _) (.cells #[.slice none 0 0, .slice none 0 0] 25)
  have HE := Lib.hid (fun W (hW : KpG w.heap.size g w W) => hE.below (hW.below h.1 h.base))
  have HN := Lib.hid (mni_any _ (h.al (.cells #[.slice none 0 0, .slice none 0 0] 25)) (HE.out _ hk0) hst)
  have HST := Lib.hid hst
  clear h hE hst
  go_enter Tryd.func22, Tryd.ntmps22
  go_wp2_with (go_at_call 37; refine HN.out.mono ?_)
  rintro e w1 ⟨vr, m, st1, rfl, hor, ht, hr, hk⟩
  have hk1 := hk0.trans (hk.mono hk0.size)
  have hb1 := hbx.kp hk hne
  have HOR := Lib.hid (own_base (show w1.ownsRow (w.alloc (.cells #[.slice none 0 0, .slice none 0 0] 25)).heap.size 3 1 vr m.length (m.flatMap nuC) from hor) hk0.size)
  have HT1 := Lib.hid (ht.congr tkRow_cnt)
  have HL1 := Lib.hid (show ∀ l, st1 = some l → l.length ≤ 1000000000 from fun l e => (by
    subst e
    obtain ⟨l0, h1, h2⟩ := tkR_len HT1.out
    exact Nat.le_trans h2 (HST.out _ h1)))
  have HRD := Lib.hid hr
  have HN := Lib.hid (mnt_any w1 hr (HE.out _ hk1) HL1.out)
  obtain ⟨Ar, cr, rfl⟩ := own_slice hor
  clear ht hr hk hbx hk0 hor HL1
  go_wp2_with (go_at_call 39; refine HN.out.mono ?_)
  rintro e w2 ⟨vt, ts, st2, rfl, hot, ht, hr, hk⟩
  have HK2 := Lib.hid (hk1.trans (hk.mono hk1.size))
  have hb2 := hb1.kp hk hne
  have HOT := Lib.hid (hot.base hk1.size)
  have HOR2 := Lib.hid (HRD.out.keep HOR.out (by decide) hk)
  have HT2 := Lib.hid ((Tk.two Sta.mk HT1.out ht).congr tkS_two)
  obtain ⟨At, ct, rfl⟩ := hot.slice
  have HR := Lib.hid hr
  have f0 := hb2.frozen 0
  have f1 := hb2.frozen 1
  have d0 := hb2.cell 0 _ rfl
  have d1 := hb2.cell 1 _ rfl
  clear ht hr hk hb1 hk1 hot HRD HOR HN HT1
  obtain ⟨W9, hW9⟩ : ∃ W, W = (w2.setCell ⟨w.heap.size, 0, none⟩ (.slice Ar m.length cr)).setCell ⟨w.heap.size, 1, none⟩ (.slice At ts.length ct) := ⟨_, rfl⟩
  have HB9 := Lib.hid (show BoxC W9 w.heap.size 25 #[.slice Ar m.length cr, .slice At ts.length ct] from by rw [hW9]; exact (hb2.set 0 _).set 1 _)
  have HR9 := Lib.hid (show RdS B g a0 W9 st2 from by rw [hW9]; exact (HR.out.set hsz (fun e => hne e.symm)).set hsz (fun e => hne e.symm))
  have HK9 := Lib.hid (show KpG w.heap.size g w W9 from by rw [hW9]; exact (HK2.out.set2 (Nat.le_refl _) 0 _).set2 (Nat.le_refl _) 1 _)
  have HX := Lib.hid (show W9.ownsRow w.heap.size 3 1 (.slice Ar m.length cr) m.length (m.flatMap nuC) from by
    rw [hW9]; exact own_box (own_box HOR2.out hb2 (by decide) 0 _) (hb2.set 0 _) (by decide) 1 _)
  have HY := Lib.hid (show ThO w.heap.size W9 (.slice At ts.length ct) ts from by
    rw [hW9]; exact (HOT.out.box hb2 (by decide) (by decide) (by decide) 0 _).box (hb2.set 0 _) (by decide) (by decide) (by decide) 1 _)
  have HW9 := Lib.hid hW9
  clear hW9
  have hz : Tryd.prog.cellsOf 25 = 2 := by kernel_rfl
  go_wp2_with fail
  rw [← HW9.out]
  clear d0 d1 f0 f1
  have r0 := HB9.out.cell 0 _ rfl
  have r1 := HB9.out.cell 1 _ rfl
  refine bodyPost_ret (v := .agg #[.slice Ar m.length cr, .slice At ts.length ct]) (by simp [results, Tryd.results22, go_sem, r0, r1, hz]) rfl ?_
  exact ⟨_, ⟨m, ts⟩, st2, rfl, ⟨_, _, rfl, HX.out, HY.out⟩, HT2.out, HR9.out, HK9.out⟩
/-- What the end of a reading leaves. -/
def EndRet (B g : Nat) (a0 : Addr) (st : Option (List Int)) (w : World) (e : Ending) (w' : World) : Prop :=
  e = .returned (.tuple #[]) ∧ KpG w.heap.size g w w' ∧ ∃ vl v, BoxC w' g 48 #[vl, v] ∧ ((st = some [] ∧ v = erV a0) ∨ (st ≠ some [] ∧ Bd B a0 w' v))
set_option maxHeartbeats 8000000 in
set_option maxRecDepth 100000 in
theorem end_any {B g : Nat} {a0 : Addr} {st : Option (List Int)} (w : World) (h : RdS B g a0 w st) (hE : ErG B a0 w) :
    Calls Tryd.prog 23 #[.pointer (some ⟨g, 0, none⟩)] w (EndRet B g a0 st w) := by
  have ce := hE.cEnd
  have hB5 := hE.hB
  have hsz := h.base
  have HKL := Lib.hid (fun e hb => keep_any (e := e) w h hb)
  obtain ⟨h0, vl, ev, l, hbx, hil, hst⟩ := id h
  obtain ⟨Al, cl, rfl, gl1, gl2, -⟩ := hil
  have c0 := hbx.cell 0 _ rfl
  cases l with
  | nil =>
    clear HKL
    rcases hst with ⟨rfl, rfl⟩ | ⟨rfl, hbd⟩
    · have HK := Lib.hid (keep_nil w hbx a0 rfl)
      have HF := Lib.hid (show KpG w.heap.size g w (w.setCell ⟨g, 1, none⟩ (erV a0)) from KpG.set _ _ _ _ _)
      have HX := Lib.hid (hbx.set 1 (erV a0))
      unfold erV at ce HK
      go_enter Tryd.func23, Tryd.ntmps23
      go_wp2_with (go_at_call 41; refine HK.out.mono ?_)
      rintro e w1 ⟨rfl, rfl⟩
      go_wp2
      refine bodyPost_end (v := .tuple #[]) (by simp [results, Tryd.results23, go_sem]) rfl ?_
      exact ⟨rfl, HF.out, _, _, HX.out, .inl ⟨rfl, rfl⟩⟩
    · obtain ⟨ab, rfl, hb'⟩ := id hbd
      have HK := Lib.hid (keep_old w ab hbx a0 rfl)
      unfold erV at ce HK
      go_enter Tryd.func23, Tryd.ntmps23
      go_wp2_with (go_at_call 41; refine HK.out.mono ?_)
      rintro e w1 ⟨rfl, rfl⟩
      go_wp2
      refine bodyPost_end (v := .tuple #[]) (by simp [results, Tryd.results23, go_sem]) rfl ?_
      exact ⟨rfl, KpG.refl _ _ _, _, _, hbx, .inr ⟨(by simp), hbd⟩⟩
  | cons x r =>
    obtain ⟨el, cf, hbe⟩ := hE.cLeft
    have HK := Lib.hid (HKL.out el hbe)
    obtain ⟨ae, rfl, _⟩ := hbe
    have hns : st ≠ some [] := by
      rcases hst with ⟨rfl, _⟩ | ⟨rfl, _⟩
      · simp
      · simp
    have hEk := Lib.hid (fun W (hW : KpG w.heap.size g w W) => hE.below (hW.below h0 hsz))
    unfold erV at cf HK
    rw [List.length_cons] at c0
    clear hst HKL hbx ce
    go_enter Tryd.func23, Tryd.ntmps23
    go_wp2_with (go_at_call 41; refine HK.out.mono ?_)
    rintro e w1 ⟨rfl, hr1, hk1⟩
    have ce := (hEk.out w1 hk1).cEnd
    obtain ⟨-, vl1, ev1, l1, hbx1, -, hst1⟩ := hr1
    rcases hst1 with ⟨h, _⟩ | ⟨_, hbd⟩
    · cases h
    obtain ⟨ab, rfl, hb'⟩ := id hbd
    have HK2 := Lib.hid (keep_old w1 ab hbx1 a0 rfl)
    unfold erV at ce HK2
    clear c0 cf HK hEk
    go_wp2_with (go_at_call 41; refine HK2.out.mono ?_)
    rintro e w2 ⟨rfl, rfl⟩
    go_wp2
    refine bodyPost_end (v := .tuple #[]) (by simp [results, Tryd.results23, go_sem]) rfl ?_
    exact ⟨rfl, hk1, _, _, hbx1, .inr ⟨hns, hbd⟩⟩
/-- What hands back a state, and whether there is one. -/
def OfRet (o : Option Sta) (w : World) (e : Ending) (w' : World) : Prop :=
  ∃ u, e = .returned (.tuple #[u, .bool o.isSome]) ∧ repS w.heap.size w' u (o.getD ⟨[], []⟩) ∧ Below w.heap.size w w'
theorem reps_zero (B : Nat) (W : World) : repS B W (.agg #[.slice none 0 0, .slice none 0 0]) ⟨[], []⟩ := ⟨_, _, rfl, World.ownsRow_nil _ _ _ _, ThO.nil _ _⟩
theorem repS.base {a base : Nat} {W : World} {v : Value} {s : Sta} (h : repS base W v s) (ha : a ≤ base) : repS a W v s := by
  obtain ⟨vm, vt, e, h1, h2⟩ := h
  exact ⟨vm, vt, e, own_base h1 ha, h2.base ha⟩
/-- A store into a box. -/
theorem repS.box {base g : Nat} {W : World} {T : TypeId} {cs : Array Value} {v : Value} {s : Sta} (h : repS base W v s) (hbx : BoxC W g T cs) (h1 : (44 : TypeId) ≠ T) (h2 : (3 : TypeId) ≠ T) (h3 : (41 : TypeId) ≠ T) (i : Nat) (x : Value) :
    repS base (W.setCell ⟨g, i, none⟩ x) v s := by
  obtain ⟨vm, vt, e, e1, e2⟩ := h
  exact ⟨vm, vt, e, own_box e1 hbx h2 i x, e2.box hbx h1 h2 h3 i x⟩
theorem repS.slices {B : Nat} {W : World} {v : Value} {s : Sta} (h : repS B W v s) : ∃ A n c A' n' c', v = .agg #[.slice A n c, .slice A' n' c'] := by
  obtain ⟨xm, xt, rfl, hxm, hxt⟩ := h
  obtain ⟨Am, cm, rfl⟩ := own_slice hxm
  obtain ⟨At, ct, rfl⟩ := hxt.slice
  exact ⟨_, _, _, _, _, _, rfl⟩
set_option maxHeartbeats 8000000 in
set_option maxRecDepth 100000 in
theorem of_any {a0 : Addr} {v : Value} {l : List Int} (w : World) (hE : ErG w.heap.size a0 w) (hv : IntR w.heap.size w v l) (hl : l.length ≤ 1000000000) :
    Calls Tryd.prog 11 #[v] w (OfRet (ofN l) w) := by
  have HV := Lib.hid hv
  obtain ⟨A, c, rfl, -⟩ := hv
  have hw0 := Lib.hid (below_al (Below.refl w.heap.size w) (.cells #[.slice none 0 0, .slice none 0 0] 25))
  have hw1 := Lib.hid (below_al hw0.out (.cells #[.slice none 0 0, .nilIface] 48))
  clear hw1
  have hw1 := Lib.hid (below_al hw0.out (.cells #[.slice A l.length c, .nilIface] 48))
  have hs1 : (w.alloc (.cells #[.slice none 0 0, .slice none 0 0] 25)).heap.size = w.heap.size + 1 := by simp
  have HBR := Lib.hid ((BoxC.new w 25 #[.slice none 0 0, .slice none 0 0]).alloc (.cells #[.slice A l.length c, .nilIface] 48))
  have hbg := BoxC.new (w.alloc (.cells #[.slice none 0 0, .slice none 0 0] 25)) 48 #[.slice A l.length c, .nilIface]
  rw [hs1] at hbg
  have hrd : RdS w.heap.size (w.heap.size + 1) a0 ((w.alloc (.cells #[.slice none 0 0, .slice none 0 0] 25)).alloc (.cells #[.slice A l.length c, .nilIface] 48)) (some l) :=
    ⟨by omega, _, _, l, hbg, HV.out.below hw1.out, .inl ⟨rfl, rfl⟩⟩
  have HE := Lib.hid (fun W (hW : Below w.heap.size w W) => hE.below hW)
  have HN := Lib.hid (state_any _ hrd (HE.out _ hw1.out) (fun l' e => by injection e with e; subst e; exact hl))
  have hz : Tryd.prog.cellsOf 25 = 2 := by kernel_rfl
  obtain ⟨g, hg⟩ : ∃ g, g = w.heap.size + 1 := ⟨_, rfl⟩
  obtain ⟨gr, hgr⟩ : ∃ g, g = w.heap.size := ⟨_, rfl⟩
  have hgg : gr ≠ g := by omega
  have hlo : w.heap.size ≤ gr := by omega
  have hlg : w.heap.size ≤ g := by omega
  clear hE hrd hbg hs1 hl
  go_enter Tryd.func11, Tryd.ntmps11
  go_wp2_with (go_at_call 22; refine HN.out.mono ?_)
  rintro e w2 ⟨u, s, st2, rfl, ⟨vm, vt, rfl, hom, hot⟩, ht, hr2, hk2⟩
  rw [← hg] at hr2 hk2 ⊢
  rw [← hgr] at HBR ⊢
  have HG := Lib.hid hg
  have HGR := Lib.hid hgr
  clear hg hgr
  have hB2 := hw1.out.trans (hk2.below hlg (by simp; omega))
  have hbr2 := HBR.out.kp hk2 hgg
  have HT := Lib.hid ht
  obtain ⟨Am, cm, rfl⟩ := own_slice hom
  obtain ⟨At, ct, rfl⟩ := hot.slice
  have hal := below_al (Below.refl w2.heap.size w2) (.cells #[.slice Am s.mem.length cm, .slice At s.ths.length ct] 25)
  have hr3 := hr2.al (.cells #[.slice Am s.mem.length cm, .slice At s.ths.length ct] 25)
  have hB3 := hB2.trans (hal.mono hB2.size)
  have hbx := BoxC.new w2 25 #[.slice Am s.mem.length cm, .slice At s.ths.length ct]
  have hbr3 := hbr2.alloc (.cells #[.slice Am s.mem.length cm, .slice At s.ths.length ct] 25)
  have hom3 := own_below hom hal
  have hot3 := hot.below hal
  have HEN := Lib.hid (end_any _ hr3 (HE.out _ hB3))
  have HR3 := Lib.hid hr3
  have HOM := Lib.hid (own_base hom3 hw1.out.size)
  have HOT := Lib.hid (hot3.base hw1.out.size)
  have hnx : w2.heap.size ≠ g := fun e => by have := hr2.lt; omega
  have hnr : w2.heap.size ≠ gr := fun e => by have := hbr2.lt; omega
  have HHX := Lib.hid hbx
  have HHR := Lib.hid hbr3
  clear ht hr2 hk2 hbr2 hom hot hal hr3 hB2 hom3 hot3 HN HBR
  go_wp2_with (go_at_call 23; refine HEN.out.mono ?_)
  rintro e w4 ⟨rfl, hk4, vl4, v4, hbx4, hv4⟩
  have hB4 := hB3.trans (hk4.below hlg hB3.size)
  have hx4 := HHX.out.kp hk4 hnx
  have hr4 := HHR.out.kp hk4 hgg
  have hom4 := HR3.out.keep HOM.out (by decide) hk4
  have hot4 := HOT.out.keep HR3.out hk4
  have hE4 := HE.out w4 hB4
  have ce := hE4.cEnd
  have c1 := hbx4.cell 1 _ rfl
  have x0 := hx4.cell 0 _ rfl
  have x1 := hx4.cell 1 _ rfl
  have y0 := hr4.cell 0 _ rfl
  have y1 := hr4.cell 1 _ rfl
  have f0 := hr4.frozen 0
  have f1 := hr4.frozen 1
  have HO := Lib.hid HT.out.ofN
  have HB4 := Lib.hid hB4
  have HR4 := Lib.hid hr4
  have HOM4 := Lib.hid hom4
  have HOT4 := Lib.hid hot4
  rcases hv4 with ⟨hs, rfl⟩ | ⟨hs, hbd⟩
  · have HOF := Lib.hid (show ofN l = some s from by
      rcases HO.out with ⟨_, h⟩ | ⟨h, _⟩
      · exact h
      · exact absurd hs h)
    have HIS := Lib.hid (is_same a0 w4)
    obtain ⟨W9, hW9⟩ : ∃ W, W = (w4.setCell ⟨gr, 0, none⟩ (.slice Am s.mem.length cm)).setCell ⟨gr, 1, none⟩ (.slice At s.ths.length ct) := ⟨_, rfl⟩
    have HB9 := Lib.hid (show BoxC W9 gr 25 #[.slice Am s.mem.length cm, .slice At s.ths.length ct] from by rw [hW9]; exact (HR4.out.set 0 _).set 1 _)
    have HS9 := Lib.hid (show repS w.heap.size W9 (.agg #[.slice Am s.mem.length cm, .slice At s.ths.length ct]) s from by
      rw [hW9]
      exact ⟨_, _, rfl, own_box (own_box HOM4.out HR4.out (by decide) 0 _) (HR4.out.set 0 _) (by decide) 1 _, (HOT4.out.box HR4.out (by decide) (by decide) (by decide) 0 _).box (HR4.out.set 0 _) (by decide) (by decide) (by decide) 1 _⟩)
    have HK9 := Lib.hid (show Below w.heap.size w W9 from by rw [hW9]; exact (HB4.out.setCell (p := ⟨gr, 0, none⟩) hlo _).setCell (p := ⟨gr, 1, none⟩) hlo _)
    have HW9 := Lib.hid hW9
    unfold erV at ce c1 HIS
    clear hW9 hk4 hbx4 hB4 hx4 hr4 hom4 hot4 hE4 hs HO HT HB4 HR4 HOM4 HOT4 HHX HHR HEN HR3 HOM HOT HE hB3 hbx hbr3
    go_wp2_with (go_at_call 24; refine HIS.out.mono ?_)
    rintro e w5 ⟨rfl, rfl⟩
    go_wp2_with fail
    rw [← HW9.out]
    clear x0 x1 y0 y1 f0 f1 ce c1
    have r0 := HB9.out.cell 0 _ rfl
    have r1 := HB9.out.cell 1 _ rfl
    refine bodyPost_ret (v := .tuple #[.agg #[.slice Am s.mem.length cm, .slice At s.ths.length ct], .bool true]) (by simp [results, Tryd.results11, go_sem, r0, r1, hz]) rfl ?_
    rw [HOF.out]
    exact ⟨_, rfl, HS9.out, HK9.out⟩
  · have HOF := Lib.hid (show ofN l = none from by
      rcases HO.out with ⟨h, _⟩ | ⟨_, h⟩
      · exact absurd h hs
      · exact h)
    obtain ⟨ab, rfl, hne, _, cb, tb, hcb⟩ := hbd
    obtain ⟨_, ca, ta, hca⟩ := hE4.hEnd
    have HIS := Lib.hid (is_other ab a0 cb ca tb ta w4 hne hcb hca)
    obtain ⟨W9, hW9⟩ : ∃ W, W = (w4.setCell ⟨gr, 0, none⟩ (.slice none 0 0)).setCell ⟨gr, 1, none⟩ (.slice none 0 0) := ⟨_, rfl⟩
    have HB9 := Lib.hid (show BoxC W9 gr 25 #[.slice none 0 0, .slice none 0 0] from by rw [hW9]; exact (HR4.out.set 0 _).set 1 _)
    have HK9 := Lib.hid (show Below w.heap.size w W9 from by rw [hW9]; exact (HB4.out.setCell (p := ⟨gr, 0, none⟩) hlo _).setCell (p := ⟨gr, 1, none⟩) hlo _)
    have HW9 := Lib.hid hW9
    unfold erV at ce c1 HIS
    clear hW9 hk4 hbx4 hB4 hx4 hr4 hom4 hot4 hE4 hs HO HT HB4 HR4 HOM4 HOT4 HHX HHR HEN HR3 HOM HOT HE hB3 hbx hbr3 hne hcb hca
    go_wp2_with (go_at_call 24; refine HIS.out.mono ?_)
    rintro e w5 ⟨rfl, rfl⟩
    go_wp2_with fail
    rw [← HW9.out]
    clear x0 x1 y0 y1 f0 f1 ce c1
    have r0 := HB9.out.cell 0 _ rfl
    have r1 := HB9.out.cell 1 _ rfl
    refine bodyPost_ret (v := .tuple #[.agg #[.slice none 0 0, .slice none 0 0], .bool false]) (by simp [results, Tryd.results11, go_sem, r0, r1, hz]) rfl ?_
    rw [HOF.out]
    exact ⟨_, rfl, reps_zero _ _, HK9.out⟩
end Go.Proofs.YtmpjcfehabnhgaaDoor
