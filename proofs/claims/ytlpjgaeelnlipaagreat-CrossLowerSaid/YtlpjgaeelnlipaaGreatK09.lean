/-
  PLAIN MATHEMATICS OF LAYER 8: where fences may be put.
  MORE MATHEMATICS OF LAYER 8: slots and steps tell one another; rows without slots; where jumps land.
  MAPS of bools that the program makes, keyed by numbers, and by places: what they say of each key; the look-up of a bool at the operation, within a fence and without.
  MATHEMATICS OF LAYER 8: the places that an iterator goes through, in order.
  THE ITERATOR OVER A CODE's SLOTS: for every loop body that keeps what lay below n₀; and what it hands back to a loop.
  slots.count, Many, Of, Num: loops over the iterator.
  slots.Num: a loop over the iterator that returns.
  A LOOP OVER AN ITERATOR THAT HAS A VARIABLE OF ITS OWN: what it may do between two rounds: lay blocks, alter walks, and boxes of one type that it made; it tells the elements of one list, in order. The loop's law over such a one.
  THE LIBRARY's contracts on maps.Keys, slices.Sorted, slices.Sort laid at this program: tables of numbers, and facts of the program's own; by the kit's lay-plain.
  MAPS OF BOOLS, ALL OF THEM TRUE, keyed by numbers: as sets; slices.Sorted(maps.Keys(m)): the set's numbers, rising.
  slots.keys; slots.chosen: the places of the steps whose slots are in a row.
  code.At, Line: how many steps stand ahead of a line; the line of a step.
-/
import Derived.Test.YtlpjgaeelnlipaaGreatK02
import Derived.Maps.OwnIn
import Derived.Maps.OwnOps
import Derived.Maps.Views
import Derived.DeepKeys4
import Derived.Test.YtlpjgaeelnlipaaGreatK00
import Derived.RangeFuncNested
import Derived.RangeFuncBound
import Derived.RangeFuncCalls
import Derived.RangeFuncLeaves
import Derived.RangeFuncBox
import Derived.Shelf.Abstract
import Derived.WalkKit
import Derived.OwnWalkIn
import Derived.TacticsInMore
import Derived.LoopNIn
import Derived.LoopIn
import Derived.Shelf.SlIterI.Nil
import Derived.Shelf.SortM.Plain
import Derived.Shelf.SortM.SortNone
import Derived.Ground.GgzProg
import Derived.Ground.SlgmProg
import Derived.Test.YtlpjgaeelnlipaaGreatProg
import Derived.Test.YtlpjgaeelnlipaaGreatScP
import Derived.Shelf.SlIterI.Stops
import Derived.Test.YtlpjgaeelnlipaaGreatK03
import Derived.Test.YtlpjgaeelnlipaaGreatK01
set_option linter.unusedVariables false
set_option linter.unusedSimpArgs false
namespace Go.Proofs.YtlpjgaeelnlipaaGreat.SlM
open CodM (St Pg hasS)
open OpsM (Ln)
open VM (Fl)

instance : DecidableEq Ln := fun a b => decidable_of_iff (a.op = b.op ∧ a.reg = b.reg ∧ a.loc = b.loc ∧ a.label = b.label ∧ a.n = b.n) (by cases a; cases b; simp)
instance : DecidableEq St := fun a b => decidable_of_iff (a.op = b.op ∧ a.reg = b.reg ∧ a.loc = b.loc ∧ a.n = b.n ∧ a.to = b.to) (by cases a; cases b; simp)
/-- Is a number in a row? -/
def has (g : List Int) (n : Int) : Bool := g.any (fun x => x == n)
theorem has_take (g : List Int) (k : Nat) (h : k < g.length) (n : Int) : has (g.take (k + 1)) n = (has (g.take k) n || g[k] == n) := by
  unfold has; rw [List.take_succ_eq_append_getElem h, List.any_append]; simp
theorem has_mem (g : List Int) (n : Int) : has g n = true ↔ n ∈ g := by unfold has; simp
/-- The numbers of a row that are from 0 to below many. -/
def keyB (g : List Int) (many : Nat) (n : Int) : Bool := has g n && (decide (0 ≤ n) && decide (n < many))
section
variable {A : Type} (p : A → Bool)
/-- How many of these are steps. -/
def pc (l : List A) : Nat := (l.filter p).length
theorem pc_snoc (l : List A) (x : A) : pc p (l ++ [x]) = pc p l + if p x then 1 else 0 := by
  unfold pc
  rw [List.filter_append, List.length_append]
  cases c : p x
  · rw [List.filter_cons_of_neg (by simp [c])]; rfl
  · rw [List.filter_cons_of_pos c]; rfl
theorem pc_take (l : List A) (k : Nat) (h : k < l.length) : pc p (l.take (k + 1)) = pc p (l.take k) + if p l[k] then 1 else 0 := by
  rw [List.take_succ_eq_append_getElem h, pc_snoc]
theorem pc_cons (x : A) (l : List A) : pc p (x :: l) = (if p x then 1 else 0) + pc p l := by
  unfold pc
  cases c : p x
  · rw [List.filter_cons_of_neg (by simp [c])]; simp
  · rw [List.filter_cons_of_pos c, List.length_cons]; simp; omega
theorem pc_len (l : List A) : pc p l ≤ l.length := List.length_filter_le _ _
theorem pc_mono (l : List A) {i k : Nat} (h : i ≤ k) : pc p (l.take i) ≤ pc p (l.take k) := by
  have : l.take i = (l.take k).take i := by rw [List.take_take, Nat.min_eq_left h]
  rw [this]
  exact ((List.take_sublist i (l.take k)).filter p).length_le
/-- How many stand ahead of thread t. -/
def ahd (ths : List (List A)) (t : Nat) : Nat := ((ths.take t).map (pc p)).sum
theorem ahd_zero (ths : List (List A)) : ahd p ths 0 = 0 := rfl
theorem ahd_next (ths : List (List A)) (t : Nat) (h : t < ths.length) : ahd p ths (t + 1) = ahd p ths t + pc p ths[t] := by
  unfold ahd
  rw [List.take_succ_eq_append_getElem h, List.map_append, List.sum_append]; simp
theorem ahd_over (ths : List (List A)) (t : Nat) (h : ths.length ≤ t) : ahd p ths (t + 1) = ahd p ths t := by
  unfold ahd
  rw [List.take_of_length_le h, List.take_of_length_le (by omega)]
theorem ahd_mono (ths : List (List A)) {i : Nat} : ∀ {j : Nat}, i ≤ j → ahd p ths i ≤ ahd p ths j
  | 0, h => by obtain rfl : i = 0 := by omega
               exact Nat.le_refl _
  | j + 1, h => by
    by_cases e : i = j + 1
    · subst e; exact Nat.le_refl _
    · refine Nat.le_trans (ahd_mono ths (show i ≤ j by omega)) ?_
      by_cases hj : j < ths.length
      · rw [ahd_next p ths j hj]; omega
      · rw [ahd_over p ths j (by omega)]; exact Nat.le_refl _
def many (ths : List (List A)) : Nat := ahd p ths ths.length
/-- The number of the slot ahead of what stands at that place. -/
def sl (ths : List (List A)) (t k : Nat) : Nat := ahd p ths t + pc p ((ths.getD t []).take k)
theorem getD_at {B : Type} {l : List B} {t : Nat} {d : B} (h : t < l.length) : l.getD t d = l[t] := by
  rw [List.getD_eq_getElem?_getD, List.getElem?_eq_getElem h]; rfl
theorem sl_zero (ths : List (List A)) (t : Nat) : sl p ths t 0 = ahd p ths t := by unfold sl; simp [pc]
theorem sl_next (ths : List (List A)) {t k : Nat} (ht : t < ths.length) (hk : k < ths[t].length) : sl p ths t (k + 1) = sl p ths t k + if p ths[t][k] then 1 else 0 := by
  unfold sl
  rw [getD_at ht, pc_take p _ k hk]; omega
theorem sl_end (ths : List (List A)) {t : Nat} (ht : t < ths.length) : sl p ths t ths[t].length = ahd p ths (t + 1) := by
  unfold sl
  rw [getD_at ht, List.take_length, ahd_next p ths t ht]
theorem sl_many (ths : List (List A)) {t k : Nat} (ht : t < ths.length) (hk : k ≤ ths[t].length) : sl p ths t k ≤ many p ths := by
  refine Nat.le_trans ?_ (ahd_mono p ths (show t + 1 ≤ ths.length by omega))
  rw [← sl_end p ths ht]
  unfold sl
  have := pc_mono p (ths.getD t []) hk
  omega
theorem sl_lt (ths : List (List A)) {t k : Nat} (ht : t < ths.length) (hk : k < ths[t].length) (hp : p ths[t][k] = true) : sl p ths t k < many p ths := by
  have h := sl_many p ths ht (show k + 1 ≤ ths[t].length by omega)
  rw [sl_next p ths ht hk, if_pos hp] at h
  omega
theorem many_le {M N : Nat} (ths : List (List A)) (hn : ths.length ≤ N) (h : ∀ l ∈ ths, l.length ≤ M) : many p ths ≤ N * M := by
  have : ∀ t, t ≤ ths.length → ahd p ths t ≤ t * M := by
    intro t
    induction t with
    | zero => intro _; simp [ahd_zero]
    | succ t ih =>
      intro ht
      rw [ahd_next p ths t (by omega), Nat.succ_mul]
      have h1 := ih (by omega)
      have h2 := h ths[t] (List.getElem_mem _)
      have h3 := pc_len p ths[t]
      omega
  exact Nat.le_trans (this _ (Nat.le_refl _)) (Nat.mul_le_mul_right _ hn)
/-- Is a step there? -/
def isS (ths : List (List A)) (t k : Nat) : Bool := match (ths.getD t [])[k]? with | some x => p x | none => false
theorem isS_at (ths : List (List A)) {t k : Nat} (ht : t < ths.length) (hk : k < ths[t].length) : isS p ths t k = p ths[t][k] := by
  unfold isS; rw [getD_at ht, List.getElem?_eq_getElem hk]
/-- The places of the steps whose slots are in the row. -/
def ch (ths : List (List A)) (g : List Int) (t k : Nat) : Bool := isS p ths t k && has g (sl p ths t k)
/-- The first n of l, with x ahead of those that are chosen. -/
def wthN (c : Nat → Bool) (x : A) (l : List A) : Nat → List A
  | 0 => []
  | n + 1 => wthN c x l n ++ ((if c n then [x] else []) ++ l[n]?.toList)
theorem wthN_next (c : Nat → Bool) (x : A) (l : List A) (n : Nat) (h : n < l.length) : wthN c x l (n + 1) = wthN c x l n ++ ((if c n then [x] else []) ++ [l[n]]) := by
  rw [wthN, List.getElem?_eq_getElem h]; rfl
theorem wthN_len (c : Nat → Bool) (x : A) (l : List A) : ∀ n, (wthN c x l n).length ≤ n * 2
  | 0 => by simp [wthN]
  | n + 1 => by
    have := wthN_len c x l n
    rw [wthN, List.length_append, List.length_append]
    have h1 : (if c n then [x] else []).length ≤ 1 := by split <;> simp
    have h2 : (l[n]?.toList).length ≤ 1 := by cases l[n]? <;> simp
    omega
/-- With x ahead of each step whose number, from n on, is in the row. -/
def fz (x0 : A) (g : List Int) : Nat → List A → List A
  | n, [] => []
  | n, x :: r => (if p x && has g n then [x0] else []) ++ x :: fz x0 g (n + if p x then 1 else 0) r
theorem fz_snoc (x0 : A) (g : List Int) (y : A) : ∀ (l : List A) (n : Nat), fz p x0 g n (l ++ [y]) = fz p x0 g n l ++ ((if p y && has g ((n + pc p l : Nat) : Int) then [x0] else []) ++ [y])
  | [], n => by simp [fz, pc]
  | x :: r, n => by
    rw [List.cons_append, fz, fz, fz_snoc x0 g y r, pc_cons, List.append_assoc, List.cons_append, Nat.add_assoc]
theorem fz_take (x0 : A) (g : List Int) (n : Nat) (l : List A) (k : Nat) (h : k < l.length) : fz p x0 g n (l.take (k + 1)) = fz p x0 g n (l.take k) ++ ((if p l[k] && has g ((n + pc p (l.take k) : Nat) : Int) then [x0] else []) ++ [l[k]]) := by
  rw [List.take_succ_eq_append_getElem h, fz_snoc]
theorem wth_fz (x0 : A) (g : List Int) (ths : List (List A)) {t : Nat} (ht : t < ths.length) : ∀ n, n ≤ ths[t].length → wthN (ch p ths g t) x0 ths[t] n = fz p x0 g (ahd p ths t) (ths[t].take n)
  | 0, _ => by simp [wthN, fz]
  | n + 1, h => by
    rw [wthN_next _ _ _ n (by omega), fz_take p x0 g _ _ n (by omega), wth_fz x0 g ths ht n (by omega)]
    unfold ch sl
    rw [isS_at p ths ht (by omega), getD_at ht]
/-! Erased again: the program's way. -/
/-- What is next, is it behind a fence, what stays. -/
def eS (g : List Int) (s : Nat × Bool × List A) (x : A) : Nat × Bool × List A :=
  if p x then (if has g s.1 && !s.2.1 then (s.1, true, s.2.2) else (s.1 + 1, false, s.2.2 ++ [x])) else (s.1, s.2.1, s.2.2 ++ [x])
/-- The state at the beginning of thread t. -/
def eA (g : List Int) (ths : List (List A)) : Nat → Nat × Bool
  | 0 => (0, false)
  | t + 1 => let s := (ths.getD t []).foldl (eS p g) ((eA g ths t).1, (eA g ths t).2, []); (s.1, s.2.1)
/-- .. ahead of place k of thread t. -/
def eK (g : List Int) (ths : List (List A)) (t k : Nat) : Nat × Bool × List A := ((ths.getD t []).take k).foldl (eS p g) ((eA p g ths t).1, (eA p g ths t).2, [])
/-- The places that are laid. -/
def lc (g : List Int) (ths : List (List A)) (t k : Nat) : Bool := isS p ths t k && (has g (eK p g ths t k).1 && !(eK p g ths t k).2.1)
/-! Erased again: the document's way. -/
def dS (g : List Int) (n0 : Nat) (s : Nat × Bool × List A) (x : A) : Nat × Bool × List A :=
  if p x && (has g ((n0 + s.1 : Nat) : Int) && !s.2.1) then (s.1, true, s.2.2) else (s.1 + (if p x then 1 else 0), (if p x then false else s.2.1), s.2.2 ++ [x])
/-- A thread without, and how many are left. -/
def dT (g : List Int) (n0 : Nat) (l : List A) (k : Nat) : Nat × Bool × List A := (l.take k).foldl (dS p g n0) (0, false, [])
end
/-! Programs. -/
/-! Codes. -/
def fenS : St := ⟨6, 0, 0, 0, 0⟩
def anyS (s : St) : Bool := true
def jmpS (s : St) : Bool := s.op == 8 || (s.op == 9 || s.op == 10)
/-- How many of the first n places are chosen. -/
def cntC (c : Nat → Bool) : Nat → Nat
  | 0 => 0
  | n + 1 => cntC c n + if c n then 1 else 0
theorem cntC_le (c : Nat → Bool) : ∀ n, cntC c n ≤ n
  | 0 => Nat.le_refl _
  | n + 1 => by rw [cntC]; have := cntC_le c n; split <;> omega
/-- Where a jump goes. -/
def land (c : Nat → Bool) (len : Nat) (to : Int) : Int := to + cntC c (min to len).toNat
def mv (c : Nat → Bool) (len : Nat) (s : St) : St := if jmpS s then ⟨s.op, s.reg, s.loc, s.n, land c len s.to⟩ else s
def insP (P : Pg) (g : List Int) : Pg := ⟨P.init, (List.range P.ths.length).map fun t => (fz anyS fenS g (ahd anyS P.ths t) (P.ths.getD t [])).map (mv (ch anyS P.ths g t) (P.ths.getD t []).length)⟩
theorem insP_len (P : Pg) (g : List Int) : (insP P g).ths.length = P.ths.length := by unfold insP; simp
theorem insP_at (P : Pg) (g : List Int) {t : Nat} (ht : t < P.ths.length) : (insP P g).ths[t]'(by rw [insP_len]; exact ht) = (fz anyS fenS g (ahd anyS P.ths t) P.ths[t]).map (mv (ch anyS P.ths g t) P.ths[t].length) := by
  unfold insP; simp only [List.getElem_map, List.getElem_range, getD_at ht]
end Go.Proofs.YtlpjgaeelnlipaaGreat.SlM
namespace Go.Proofs.YtlpjgaeelnlipaaGreat.SlM
open CodM (St Pg hasS)
open OpsM (Ln)
open VM (Fl)

theorem pc_any (l : List St) : pc anyS l = l.length := by
  unfold pc
  rw [show l.filter anyS = l from List.filter_eq_self.2 (fun _ _ => rfl)]
theorem sl_any (ths : List (List St)) {t k : Nat} (ht : t < ths.length) (hk : k ≤ ths[t].length) : sl anyS ths t k = ahd anyS ths t + k := by
  unfold sl
  rw [pc_any, getD_at ht, List.length_take, Nat.min_eq_left hk]
theorem ahd_any (ths : List (List St)) {t : Nat} (ht : t < ths.length) : ahd anyS ths (t + 1) = ahd anyS ths t + ths[t].length := by rw [ahd_next anyS ths t ht, pc_any]
theorem isS_any (ths : List (List St)) {t k : Nat} (ht : t < ths.length) (hk : k < ths[t].length) : isS anyS ths t k = true := by rw [isS_at anyS ths ht hk]; rfl
/-- Each number below many is a slot's. -/
theorem sl_sur (ths : List (List St)) (n : Nat) : ∀ T, T ≤ ths.length → n < ahd anyS ths T → ∃ t k, ∃ (ht : t < ths.length), k < ths[t].length ∧ ahd anyS ths t + k = n
  | 0, _, h => by rw [ahd_zero] at h; omega
  | T + 1, hT, h => by
    by_cases c : n < ahd anyS ths T
    · exact sl_sur ths n T (by omega) c
    · rw [ahd_any ths (show T < ths.length by omega)] at h
      exact ⟨T, n - ahd anyS ths T, by omega, by omega, by omega⟩
theorem sl_inj (ths : List (List St)) {t k u j : Nat} (ht : t < ths.length) (hk : k < ths[t].length) (hu : u < ths.length) (hj : j < ths[u].length) (e : ahd anyS ths t + k = ahd anyS ths u + j) : t = u ∧ k = j := by
  rcases Nat.lt_trichotomy t u with h | h | h
  · have h1 := ahd_mono anyS ths (show t + 1 ≤ u by omega)
    rw [ahd_any ths ht] at h1; omega
  · subst h; exact ⟨rfl, by omega⟩
  · have h1 := ahd_mono anyS ths (show u + 1 ≤ t by omega)
    rw [ahd_any ths hu] at h1; omega
/-- A thread, a place, is there one? -/
structure Pl where
  t : Int
  k : Int
  is : Bool
/-- The slot ahead of a step. -/
def numI (ths : List (List St)) (t k : Int) : Int := if 0 ≤ t ∧ t < ths.length ∧ 0 ≤ k ∧ k < (ths.getD t.toNat []).length then ((ahd anyS ths t.toNat + k.toNat : Nat) : Int) else -1
theorem numI_hit {ths : List (List St)} {t k : Nat} (ht : t < ths.length) (hk : k < ths[t].length) : numI ths t k = ((ahd anyS ths t + k : Nat) : Int) := by
  unfold numI
  rw [if_pos ⟨by omega, by omega, by omega, by simp only [Int.toNat_natCast, getD_at ht]; omega⟩]; rfl
theorem numI_no {ths : List (List St)} {t k : Int} (h : ∀ u j (hu : u < ths.length), j < ths[u].length → ¬ ((u : Int) = t ∧ (j : Int) = k)) : numI ths t k = -1 := by
  unfold numI
  rw [if_neg]
  rintro ⟨h1, h2, h3, h4⟩
  have ht : t.toNat < ths.length := by omega
  rw [getD_at ht] at h4
  exact h t.toNat k.toNat ht (by omega) ⟨by omega, by omega⟩
/-! Rows that say the same of all slots. -/
/-! Where steps come to lie. -/
/-- Where what is at place i begins, with its fence. -/
def bg (c : Nat → Bool) (i : Nat) : Nat := i + cntC c i
theorem bg_next (c : Nat → Bool) (i : Nat) : bg c (i + 1) = bg c i + (if c i then 1 else 0) + 1 := by unfold bg; rw [cntC]; omega
theorem bg_mono (c : Nat → Bool) {i : Nat} : ∀ {j}, i ≤ j → bg c i ≤ bg c j
  | 0, h => by obtain rfl : i = 0 := by omega
               exact Nat.le_refl _
  | j + 1, h => by
    by_cases e : i = j + 1
    · subst e; exact Nat.le_refl _
    · have := bg_mono c (show i ≤ j by omega)
      rw [bg_next]; omega
theorem wthN_bg {A : Type} (c : Nat → Bool) (x : A) (l : List A) : ∀ n, n ≤ l.length → (wthN c x l n).length = bg c n
  | 0, _ => rfl
  | n + 1, h => by
    rw [wthN_next c x l n (by omega), List.length_append, List.length_append, wthN_bg c x l n (by omega), bg_next]
    split <;> simp [Nat.add_assoc]
theorem wthN_split {A : Type} (c : Nat → Bool) (x : A) (l : List A) {i : Nat} : ∀ n, i < n → n ≤ l.length → ∃ r, wthN c x l n = wthN c x l (i + 1) ++ r
  | 0, h, _ => by omega
  | n + 1, h, hn => by
    by_cases e : i = n
    · subst e; exact ⟨[], by simp⟩
    · obtain ⟨r, hr⟩ := wthN_split (i := i) c x l n (by omega) (by omega)
      exact ⟨r ++ ((if c n then [x] else []) ++ [l[n]]), by rw [wthN_next c x l n (by omega), hr, List.append_assoc]⟩
theorem wthN_fen {A : Type} (c : Nat → Bool) (x : A) (l : List A) {i n : Nat} (hi : i < n) (hn : n ≤ l.length) (hc : c i = true) : (wthN c x l n)[bg c i]? = some x := by
  obtain ⟨r, hr⟩ := wthN_split c x l n hi hn
  have h1 := wthN_bg c x l i (by omega)
  rw [hr, wthN_next c x l i (by omega), hc, List.append_assoc, List.getElem?_append_right (by omega), h1, Nat.sub_self]; rfl
theorem wthN_own {A : Type} (c : Nat → Bool) (x : A) (l : List A) {i n : Nat} (hi : i < n) (hn : n ≤ l.length) : (wthN c x l n)[bg c (i + 1) - 1]? = some (l[i]'(by omega)) := by
  obtain ⟨r, hr⟩ := wthN_split c x l n hi hn
  have h1 := wthN_bg c x l i (by omega)
  have h2 := bg_next c i
  rw [hr, wthN_next c x l i (by omega), List.append_assoc, List.getElem?_append_right (by split at h2 <;> omega), h1]
  cases hc : c i
  · rw [hc] at h2
    rw [show bg c (i + 1) - 1 - bg c i = 0 by simp at h2; omega]; rfl
  · rw [hc] at h2
    rw [show bg c (i + 1) - 1 - bg c i = 1 by simp at h2; omega]; rfl
theorem insP_row {P : Pg} (g : List Int) {t : Nat} (ht : t < P.ths.length) : (insP P g).ths[t]'(by rw [insP_len]; exact ht) = (wthN (ch anyS P.ths g t) fenS P.ths[t] P.ths[t].length).map (mv (ch anyS P.ths g t) P.ths[t].length) := by
  rw [insP_at P g ht, wth_fz anyS fenS g P.ths ht _ (Nat.le_refl _), List.take_length]
end Go.Proofs.YtlpjgaeelnlipaaGreat.SlM
namespace Go.Proofs.YtlpjgaeelnlipaaGreat
open Go.RowKit
open Go.Maps (Keyed)
set_option maxRecDepth 100000

theorem plain_bool_inv {H : Type} {P : Program} {e : TypeId} (he : P.underlying e = some .bool) {v : Value} {z : DataW H × List MemPlace} (h : plainElem P e v = some z) : ∃ x, v = .bool x ∧ z = (.lit (.bool x), []) := by
  unfold plainElem at h
  rw [he] at h
  cases v <;> simp at h
  exact ⟨_, rfl, h.symm⟩
theorem own_look_bool {H : Type} {P : Program} {w : World} {k b n : Nat} {D : DataW H} {t e : TypeId} (h : w.ownsMap P k (plainElem P e) b n D) (K : Keyed P k) (ht : P.underlying t = some (.map k e)) (he : P.underlying e = some .bool) (hz : (zeroValue e).run P w = .ok (.bool false) w)
    {key : Value} {kl : Lit} (hkey : keyOf P k key = some kl) : ∃ c, (Instr.lookup t (.map (some b)) key false).run P w = .ok (.bool c) w ∧ D.atKey kl (.lit (.bool false)) = .lit (.bool c) := by
  obtain ⟨v, ps, hrun, hv⟩ := h.lookup K ht hz (plainElem_bool he false) hkey
  obtain ⟨c, rfl, hc⟩ := plain_bool_inv he hv
  simp only [Prod.mk.injEq] at hc
  exact ⟨c, hrun, hc.1⟩
/-- Block b is a map keyed by numbers, of at most n entries, that says f. -/
def MapI (w : World) (b n : Nat) (f : Int → Bool) : Prop :=
  ∃ D : DataW Unit, w.ownsMap Tryz.prog 3 (plainElem Tryz.prog 4) b n D ∧ Maps.IsMap D ∧ ∀ i : Int, D.atKey (.int .i64 i) (.lit (.bool false)) = .lit (.bool (f i))
theorem MapI.kept {w w' : World} {b n : Nat} {f : Int → Bool} {row : Option Nat} (h : MapI w b n f) (hg : w.grownBy w' row) (hne : some b ≠ row) : MapI w' b n f := by
  obtain ⟨D, h1, h2⟩ := h
  exact ⟨D, h1.kept hg hne, h2⟩
theorem MapI.lt {w : World} {b n : Nat} {f : Int → Bool} (h : MapI w b n f) : b < w.heap.size := by
  obtain ⟨D, h1, _⟩ := h
  exact h1.lt
theorem MapI.mono {w : World} {b n n' : Nat} {f : Int → Bool} (h : MapI w b n f) (hn : n ≤ n') : MapI w b n' f := by
  obtain ⟨D, h1, h2⟩ := h
  exact ⟨D, h1.mono hn, h2⟩
theorem MapI.made (w : World) : MapI (w.alloc (.map #[] 0)) w.heap.size 0 (fun _ => false) :=
  ⟨.map [], World.ownsMap_made w _ _ _, Maps.isMap_empty, fun i => rfl⟩
theorem mapI_key {i : Int} (h : (Lit.int .i64 i).wf = true) : keyOf Tryz.prog 3 (.int .i64 i) = some (.int .i64 i) := Maps.keyOf_int_mk Tryz.underlying3 h
theorem mapI_put {D : DataW Unit} {f : Int → Bool} (hm : Maps.IsMap D) (h : ∀ i : Int, D.atKey (.int .i64 i) (.lit (.bool false)) = .lit (.bool (f i))) (x : Int) :
    Maps.IsMap (D.put (.int .i64 x) (.lit (.bool true))) ∧ ∀ i : Int, (D.put (.int .i64 x) (.lit (.bool true))).atKey (.int .i64 i) (.lit (.bool false)) = .lit (.bool (f i || decide (i = x))) := by
  refine ⟨hm.put _ _, fun i => ?_⟩
  by_cases e : i = x
  · subst e
    rw [Maps.atKey_put_same hm (by trivial)]; simp
  · rw [Maps.atKey_put_other (by intro c; injection c with _ c; exact e c), h i]
    simp [e]
/-- Keyed by places. -/
def MapP (w : World) (b n : Nat) (f : Int → Int → Bool) : Prop :=
  ∃ D : DataW Unit, w.ownsMap Tryz.prog 117 (plainElem Tryz.prog 4) b n D ∧ Maps.IsMap D ∧
    ∀ (t k : Int) (l : Lit), keyOf Tryz.prog 117 (.agg #[.int .i64 t, .int .i64 k]) = some l → D.atKey l (.lit (.bool false)) = .lit (.bool (f t k))
theorem MapP.kept {w w' : World} {b n : Nat} {f : Int → Int → Bool} {row : Option Nat} (h : MapP w b n f) (hg : w.grownBy w' row) (hne : some b ≠ row) : MapP w' b n f := by
  obtain ⟨D, h1, h2⟩ := h
  exact ⟨D, h1.kept hg hne, h2⟩
theorem MapP.lt {w : World} {b n : Nat} {f : Int → Int → Bool} (h : MapP w b n f) : b < w.heap.size := by
  obtain ⟨D, h1, _⟩ := h
  exact h1.lt
theorem MapP.heap {w w' : World} {b n : Nat} {f : Int → Int → Bool} (h : MapP w b n f) (e : w'.heap[b]? = w.heap[b]?) : MapP w' b n f := by
  obtain ⟨D, ⟨es, cl, h1, h2⟩, h3⟩ := h
  exact ⟨D, ⟨es, cl, e.trans h1, h2⟩, h3⟩
theorem MapP.below {w w' : World} {B b n : Nat} {f : Int → Int → Bool} (h : MapP w b n f) (hb : Below B w w') (hB : b < B) : MapP w' b n f := h.heap (hb.block b hB)
theorem MapP.mono {w : World} {b n n' : Nat} {f : Int → Int → Bool} (h : MapP w b n f) (hn : n ≤ n') : MapP w b n' f := by
  obtain ⟨D, h1, h2⟩ := h
  exact ⟨D, h1.mono hn, h2⟩
theorem MapP.made (w : World) : MapP (w.alloc (.map #[] 0)) w.heap.size 0 (fun _ _ => false) :=
  ⟨.map [], World.ownsMap_made w _ _ _, Maps.isMap_empty, fun _ _ _ _ => rfl⟩
theorem place_laid : laidOutB Tryz.prog = true := by kernel_rfl
theorem place_row : (117 : TypeId) < Tryz.prog.types.size := of_decide_eq_true (by kernel_rfl)
theorem place_wide : (match Tryz.prog.underlying 117 with | some (.array _ _) | some (.struct _) => true | _ => false) = true := by kernel_rfl
theorem place_law : Keyed Tryz.prog 117 := Keyed.of_law (deep_law_laid place_laid (m := 3) (by omega) place_row (by kernel_rfl) place_wide)
theorem place_keyType : Tryz.prog.keyType 117 = true := by kernel_rfl
theorem place_cells : Tryz.prog.cellsOf 117 = 2 := by kernel_rfl
theorem int_cells : Tryz.prog.cellsOf 3 = 1 := by kernel_rfl
theorem place_size : ∃ m, Tryz.prog.types.size = m + 1 := ⟨Tryz.prog.types.size - 1, by kernel_rfl⟩
theorem place_fields : ∃ f g : Field, Tryz.prog.underlying 117 = some (.struct #[f, g]) ∧ f.type = 3 ∧ f.offset = 0 ∧ g.type = 3 ∧ g.offset = 1 ∧ (f.name != "_") = true ∧ (g.name != "_") = true :=
  ⟨_, _, Tryz.underlying117, rfl, rfl, rfl, rfl, rfl, rfl⟩
theorem int_lits (m : Nat) {t : Int} (ht : (Lit.int .i64 t).wf = true) : Tryz.prog.keyLits (m + 1) 3 [.int .i64 t] = some [.int .i64 t] := by
  rw [Program.keyLits.eq_def]
  simp only [Tryz.underlying3, ht, and_self, if_true]
theorem place_lits (m : Nat) {t k : Int} (ht : (Lit.int .i64 t).wf = true) (hk : (Lit.int .i64 k).wf = true) : Tryz.prog.keyLits (m + 1 + 1) 117 [.int .i64 t, .int .i64 k] = some [.int .i64 t, .int .i64 k] := by
  obtain ⟨f, g, hu, e1, e2, e3, e4, e5, e6⟩ := place_fields
  rw [Program.keyLits.eq_def]
  simp only [hu, place_cells, List.length_cons, List.length_nil]
  have hall : (#[f, g] : Array Field).all (·.name != "_") = true := by simp [e5, e6]
  rw [if_pos ⟨trivial, hall⟩]
  have l1 : Tryz.prog.keyLits (m + 1) f.type (([.int .i64 t, .int .i64 k] : List Value).drop f.offset |>.take (Tryz.prog.cellsOf f.type)) = some [.int .i64 t] := by
    rw [e1, e2, int_cells]; exact int_lits m ht
  have l2 : Tryz.prog.keyLits (m + 1) g.type (([.int .i64 t, .int .i64 k] : List Value).drop g.offset |>.take (Tryz.prog.cellsOf g.type)) = some [.int .i64 k] := by
    rw [e3, e4, int_cells]; exact int_lits m hk
  rw [List.mapM_cons, List.mapM_cons, List.mapM_nil, l1, l2]
  rfl
theorem mapP_key {t k : Int} (ht : (Lit.int .i64 t).wf = true) (hk : (Lit.int .i64 k).wf = true) : ∃ l, keyOf Tryz.prog 117 (.agg #[.int .i64 t, .int .i64 k]) = some l := by
  have hf : (Value.agg #[.int .i64 t, .int .i64 k]).formed Tryz.prog 117 = true := by
    unfold Value.formed
    rw [Tryz.underlying117]
    simp only [place_cells]; rfl
  obtain ⟨m, hm⟩ := place_size
  refine ⟨.string (keyBytes [.int .i64 t, .int .i64 k]), ?_⟩
  unfold keyOf
  rw [Tryz.underlying117]
  simp only [place_keyType, hf, Bool.and_self, if_true]
  rw [show (Value.agg #[.int .i64 t, .int .i64 k]).cells.toList = [.int .i64 t, .int .i64 k] by rfl, hm, place_lits m ht hk]
  rfl
theorem mapP_put {D : DataW Unit} {f : Int → Int → Bool} (hm : Maps.IsMap D) (h : ∀ (t k : Int) (l : Lit), keyOf Tryz.prog 117 (.agg #[.int .i64 t, .int .i64 k]) = some l → D.atKey l (.lit (.bool false)) = .lit (.bool (f t k)))
    {x y : Int} {lx : Lit} (hx : keyOf Tryz.prog 117 (.agg #[.int .i64 x, .int .i64 y]) = some lx) :
    Maps.IsMap (D.put lx (.lit (.bool true))) ∧ ∀ (t k : Int) (l : Lit), keyOf Tryz.prog 117 (.agg #[.int .i64 t, .int .i64 k]) = some l →
      (D.put lx (.lit (.bool true))).atKey l (.lit (.bool false)) = .lit (.bool (f t k || (decide (t = x) && decide (k = y)))) := by
  refine ⟨hm.put _ _, fun t k l hl => ?_⟩
  by_cases e : l = lx
  · subst e
    have e2 := place_law.inj hl hx
    simp only [Value.agg.injEq, Array.mk.injEq, List.cons.injEq, Value.int.injEq, true_and, and_true] at e2
    rw [Maps.atKey_put_same hm (place_law.key hx)]
    simp [e2]
  · rw [Maps.atKey_put_other e, h t k l hl]
    by_cases c : t = x ∧ k = y
    · obtain ⟨rfl, rfl⟩ := c
      rw [hl] at hx
      exact absurd (by injection hx) e
    · have : (decide (t = x) && decide (k = y)) = false := by simpa using c
      rw [this, Bool.or_false]

section
variable {P : Program} (w : World) {ops : Array Oper} {rest : List Oper} {o : Oper} {a : Act} {Q : Exit → Act → World → Prop}
theorem zero_bool (w : World) : (zeroValue 4).run Tryz.prog w = .ok (.bool false) w := by kernel_rfl
/-- The look-up in a map keyed by numbers. -/
theorem at_mapI (hg : o.guard = none) (m x : Operand) (hop : o.op = Op.lookup 55 m x false) (b n : Nat) (f : Int → Bool) (hm : a.eval m = .map (some b)) (hown : MapI w b n f) (i : Int) (hx : a.eval x = .int .i64 i) (hi : (Lit.int .i64 i).wf = true)
    (hK : wpList Tryz.prog ops Q rest (a.put o.dst (.bool (f i))) w) : wpList Tryz.prog ops Q (o :: rest) a w := by
  refine wpList_plain hg fun K' hK' => ?_
  obtain ⟨D, h1, h2, h3⟩ := hown
  obtain ⟨c, hrun, hat⟩ := own_look_bool h1 (Maps.int_keyed Tryz.underlying3) Tryz.underlying55 Tryz.underlying4 (zero_bool w) (mapI_key hi)
  rw [h3 i] at hat
  injection hat with hat
  injection hat with hat
  unfold Oper.wp
  simp [execOp, hop, hm, hx, hrun, Result.andThen]
  exact hK' _ _ (hat ▸ hK)
theorem at_mapP (hg : o.guard = none) (m x : Operand) (hop : o.op = Op.lookup 96 m x false) (b n : Nat) (f : Int → Int → Bool) (hm : a.eval m = .map (some b)) (hown : MapP w b n f) (t k : Int) (hx : a.eval x = .agg #[.int .i64 t, .int .i64 k]) (ht : (Lit.int .i64 t).wf = true) (hk : (Lit.int .i64 k).wf = true)
    (hK : wpList Tryz.prog ops Q rest (a.put o.dst (.bool (f t k))) w) : wpList Tryz.prog ops Q (o :: rest) a w := by
  refine wpList_plain hg fun K' hK' => ?_
  obtain ⟨D, h1, h2, h3⟩ := hown
  obtain ⟨l, hl⟩ := mapP_key ht hk
  obtain ⟨c, hrun, hat⟩ := own_look_bool h1 place_law Tryz.underlying96 Tryz.underlying4 (zero_bool w) hl
  rw [h3 t k l hl] at hat
  injection hat with hat
  injection hat with hat
  unfold Oper.wp
  simp [execOp, hop, hm, hx, hrun, Result.andThen]
  exact hK' _ _ (hat ▸ hK)
/-- .. within a fence. -/
theorem in_mapI {F : Fence} {nF : Nat} (hg : o.guard = none) (m x : Operand) (hop : o.op = Op.lookup 55 m x false) (b n : Nat) (f : Int → Bool) (hm : a.eval m = .map (some b)) (hown : MapI w b n f) (i : Int) (hx : a.eval x = .int .i64 i) (hi : (Lit.int .i64 i).wf = true)
    (hK : wpListIn F nF Tryz.prog ops Q rest (a.put o.dst (.bool (f i))) w) : wpListIn F nF Tryz.prog ops Q (o :: rest) a w := by
  refine wpListIn_plain hg fun K' hK' => ?_
  obtain ⟨D, h1, h2, h3⟩ := hown
  obtain ⟨c, hrun, hat⟩ := own_look_bool h1 (Maps.int_keyed Tryz.underlying3) Tryz.underlying55 Tryz.underlying4 (zero_bool w) (mapI_key hi)
  rw [h3 i] at hat
  injection hat with hat
  injection hat with hat
  unfold Oper.wpIn
  refine ⟨by simp [Oper.about, hop], ?_⟩
  rw [Oper.semAt_plain F _ _ (by rw [hop]; intro c hc'; cases hc')]
  simp [execOp, hop, hm, hx, hrun, Result.andThen]
  exact hK' _ _ (hat ▸ hK)
/-- A store of true, within a fence. -/
theorem in_putP {F : Fence} {nF : Nat} (hg : o.guard = none) (m x v : Operand) (hop : o.op = Op.mapUpdate 96 m x v) (b n : Nat) (f : Int → Int → Bool) (hm : a.eval m = .map (some b)) (hown : MapP w b n f) (hn : n < maxLen)
    (t k : Int) (hx : a.eval x = .agg #[.int .i64 t, .int .i64 k]) (hv : a.eval v = .bool true) (ht : (Lit.int .i64 t).wf = true) (hk : (Lit.int .i64 k).wf = true)
    (hK : ∀ w', MapP w' b (n + 1) (fun i j => f i j || (decide (i = t) && decide (j = k))) → w.grownBy w' (some b) → wpListIn F nF Tryz.prog ops Q rest (a.put o.dst undef) w') : wpListIn F nF Tryz.prog ops Q (o :: rest) a w := by
  obtain ⟨D, h1, h2, h3⟩ := hown
  obtain ⟨l, hl⟩ := mapP_key ht hk
  obtain ⟨h4, h5⟩ := mapP_put h2 h3 hl
  exact wpListIn_mapUpdate_own w hg m x v _ hop _ _ place_law Tryz.underlying96 _ b n D hm h1 hn _ _ l hx hv hl _ [] (plainElem_bool Tryz.underlying4 true) (fun w' h6 h7 => hK w' ⟨_, h6, h4, h5⟩ h7)
theorem in_putI {F : Fence} {nF : Nat} (hg : o.guard = none) (m x v : Operand) (hop : o.op = Op.mapUpdate 55 m x v) (b n : Nat) (f : Int → Bool) (hm : a.eval m = .map (some b)) (hown : MapI w b n f) (hn : n < maxLen)
    (i : Int) (hx : a.eval x = .int .i64 i) (hv : a.eval v = .bool true) (hi : (Lit.int .i64 i).wf = true)
    (hK : ∀ w', MapI w' b (n + 1) (fun j => f j || decide (j = i)) → w.grownBy w' (some b) → wpListIn F nF Tryz.prog ops Q rest (a.put o.dst undef) w') : wpListIn F nF Tryz.prog ops Q (o :: rest) a w := by
  obtain ⟨D, h1, h2, h3⟩ := hown
  obtain ⟨h4, h5⟩ := mapI_put h2 h3 i
  exact wpListIn_mapUpdate_own w hg m x v _ hop _ _ (Maps.int_keyed Tryz.underlying3) Tryz.underlying55 _ b n D hm h1 hn _ _ _ hx hv (mapI_key hi) _ [] (plainElem_bool Tryz.underlying4 true) (fun w' h6 h7 => hK w' ⟨_, h6, h4, h5⟩ h7)
end
end Go.Proofs.YtlpjgaeelnlipaaGreat
namespace Go.Proofs.YtlpjgaeelnlipaaGreat.SlM
open CodM (St Pg hasS)
open OpsM (Ln)
open VM (Fl)

/-- A slot's number, a thread, a place. -/
structure Sp where
  n : Nat
  t : Nat
  k : Nat
section
variable {A : Type} (p : A → Bool)
def plK (ths : List (List A)) (i : Nat) : Nat → List Sp
  | 0 => []
  | k + 1 => plK ths i k ++ (if isS p ths i k then [⟨sl p ths i k, i, k⟩] else [])
def plA (ths : List (List A)) : Nat → List Sp
  | 0 => []
  | i + 1 => plA ths i ++ plK p ths i (ths.getD i []).length
/-- All ahead of place k of thread i. -/
def plP (ths : List (List A)) (i k : Nat) : List Sp := plA p ths i ++ plK p ths i k
def pls (ths : List (List A)) : List Sp := plA p ths ths.length
theorem plP_zero (ths : List (List A)) (i : Nat) : plP p ths i 0 = plA p ths i := by unfold plP; simp [plK]
theorem plP_next (ths : List (List A)) (i k : Nat) : plP p ths i (k + 1) = plP p ths i k ++ (if isS p ths i k then [⟨sl p ths i k, i, k⟩] else []) := by
  unfold plP; rw [plK, List.append_assoc]
theorem plP_end (ths : List (List A)) {i : Nat} (hi : i < ths.length) : plP p ths i ths[i].length = plA p ths (i + 1) := by unfold plP; rw [plA, getD_at hi]
theorem plK_len (ths : List (List A)) {i : Nat} (hi : i < ths.length) : ∀ k, k ≤ ths[i].length → (plK p ths i k).length = pc p (ths[i].take k)
  | 0, _ => by simp [plK, pc]
  | k + 1, h => by
    rw [plK, List.length_append, plK_len ths hi k (by omega), pc_take p _ k (by omega), isS_at p ths hi (by omega)]
    split <;> rfl
theorem plA_len (ths : List (List A)) : ∀ i, i ≤ ths.length → (plA p ths i).length = ahd p ths i
  | 0, _ => rfl
  | i + 1, h => by
    rw [plA, List.length_append, plA_len ths i (by omega), getD_at (show i < ths.length by omega), plK_len p ths (show i < ths.length by omega) _ (Nat.le_refl _), List.take_length, ahd_next p ths i (by omega)]
theorem plP_len (ths : List (List A)) {i k : Nat} (hi : i < ths.length) (hk : k ≤ ths[i].length) : (plP p ths i k).length = sl p ths i k := by
  unfold plP sl
  rw [List.length_append, plA_len p ths i (by omega), plK_len p ths hi k hk, getD_at hi]
theorem pls_len (ths : List (List A)) : (pls p ths).length = many p ths := plA_len p ths _ (Nat.le_refl _)
theorem plA_pre (ths : List (List A)) {i : Nat} : ∀ {j}, i ≤ j → plA p ths i <+: plA p ths j
  | 0, h => by obtain rfl : i = 0 := by omega
               exact List.prefix_refl _
  | j + 1, h => by
    by_cases e : i = j + 1
    · subst e; exact List.prefix_refl _
    · exact (plA_pre ths (show i ≤ j by omega)).trans ⟨_, rfl⟩
theorem plK_pre (ths : List (List A)) (t : Nat) {i : Nat} : ∀ {j}, i ≤ j → plK p ths t i <+: plK p ths t j
  | 0, h => by obtain rfl : i = 0 := by omega
               exact List.prefix_refl _
  | j + 1, h => by
    by_cases e : i = j + 1
    · subst e; exact List.prefix_refl _
    · exact (plK_pre ths t (show i ≤ j by omega)).trans ⟨_, rfl⟩
theorem plP_pre (ths : List (List A)) {i k : Nat} (hi : i < ths.length) (hk : k ≤ ths[i].length) : plP p ths i k <+: pls p ths := by
  refine List.IsPrefix.trans ?_ (plA_pre p ths (show i + 1 ≤ ths.length by omega))
  rw [← plP_end p ths hi]
  unfold plP
  exact (List.prefix_append_right_inj _).2 (plK_pre p ths i hk)
theorem mem_plK (ths : List (List A)) (i : Nat) (x : Sp) : ∀ k, x ∈ plK p ths i k ↔ ∃ j, j < k ∧ isS p ths i j = true ∧ x = ⟨sl p ths i j, i, j⟩
  | 0 => by simp [plK]
  | k + 1 => by
    rw [plK, List.mem_append, mem_plK ths i x k]
    constructor
    · rintro (⟨j, h1, h2, h3⟩ | h)
      · exact ⟨j, by omega, h2, h3⟩
      · cases c : isS p ths i k
        · rw [c] at h; cases h
        · rw [c] at h; simp at h; exact ⟨k, by omega, c, h⟩
    · rintro ⟨j, h1, h2, h3⟩
      by_cases e : j = k
      · subst e; right; rw [h2]; simp [h3]
      · exact .inl ⟨j, by omega, h2, h3⟩
theorem mem_plA (ths : List (List A)) (x : Sp) : ∀ i, x ∈ plA p ths i ↔ ∃ t k, t < i ∧ k < (ths.getD t []).length ∧ isS p ths t k = true ∧ x = ⟨sl p ths t k, t, k⟩
  | 0 => by simp [plA]
  | i + 1 => by
    rw [plA, List.mem_append, mem_plA ths x i, mem_plK]
    constructor
    · rintro (⟨t, k, h1, h2⟩ | ⟨j, h1, h2⟩)
      · exact ⟨t, k, by omega, h2⟩
      · exact ⟨i, j, by omega, h1, h2⟩
    · rintro ⟨t, k, h1, h2, h3⟩
      by_cases e : t = i
      · subst e; exact .inr ⟨k, h2, h3⟩
      · exact .inl ⟨t, k, by omega, h2, h3⟩
theorem mem_pls (ths : List (List A)) (x : Sp) : x ∈ pls p ths ↔ ∃ t k, t < ths.length ∧ k < (ths.getD t []).length ∧ isS p ths t k = true ∧ x = ⟨sl p ths t k, t, k⟩ := mem_plA p ths x _
/-- Which places are chosen among these. -/
def chP (g : List Int) (pre : List Sp) (t k : Nat) : Bool := pre.any fun x => (decide (x.t = t) && decide (x.k = k)) && has g (x.n : Nat)
theorem chP_end (g : List Int) (ths : List (List A)) {t k : Nat} (ht : t < ths.length) (hk : k < ths[t].length) : chP g (pls p ths) t k = ch p ths g t k := by
  rw [Bool.eq_iff_iff]
  unfold chP ch
  rw [List.any_eq_true]
  constructor
  · rintro ⟨x, hx, h⟩
    obtain ⟨u, j, h1, h2, h3, rfl⟩ := (mem_pls p ths x).1 hx
    simp only [Bool.and_eq_true, decide_eq_true_eq] at h
    obtain ⟨⟨rfl, rfl⟩, h4⟩ := h
    rw [h3, h4]; rfl
  · intro h
    rw [Bool.and_eq_true] at h
    refine ⟨⟨sl p ths t k, t, k⟩, (mem_pls p ths _).2 ⟨t, k, ht, by rw [getD_at ht]; exact hk, h.1, rfl⟩, ?_⟩
    simp [h.2]
end
/-- What is next, is it behind a fence, what is laid. -/
structure Ld where
  next : Nat
  beh : Bool
  f : List (Nat × Nat)
section
variable {A : Type} (p : A → Bool)
end
end Go.Proofs.YtlpjgaeelnlipaaGreat.SlM
namespace Go.Proofs.YtlpjgaeelnlipaaGreat
open Go.RowKit Go.Shelf
attribute [local go_sem] Oper.semAt_some
open CodM (St Pg)
open SlM

/-- A slot and its place, small enough. -/
abbrev Sq := { x : Sp // x.n < 1099511627776 ∧ x.t < 1099511627776 ∧ x.k < 1099511627776 }
abbrev encs (x : Sq) : Array Value := #[.int .i64 (x.1.n : Int), .agg #[.int .i64 (x.1.t : Int), .int .i64 (x.1.k : Int)]]
theorem wf_small {n : Nat} (h : n < 1099511627776) : (Lit.int .i64 (n : Int)).wf = true := WalkArith.wf_i64 (by omega)
theorem sq_snoc {pre : List Sq} {l : List Sp} {x : Sp} (h : pre.map Subtype.val = l) (hx : x.n < 1099511627776 ∧ x.t < 1099511627776 ∧ x.k < 1099511627776) : (pre ++ [(⟨x, hx⟩ : Sq)]).map Subtype.val = l ++ [x] := by
  rw [List.map_append, h]; rfl
theorem sq_len {pre : List Sq} {l : List Sp} (h : pre.map Subtype.val = l) : pre.length = l.length := by rw [← h, List.length_map]
/-- What a round keeps: whatever lay below n₀, and the block gs, where it holds cells. -/
def SlKpS (n₀ gs : Nat) (W W' : World) : Prop := Below n₀ W W' ∧ ∀ o : Obj, W.heap[gs]? = some o → o.isCells = true → W'.heap[gs]? = some o
theorem SlKpS.t {n₀ gs : Nat} {A B C : World} (h : SlKpS n₀ gs A B) (k : SlKpS n₀ gs B C) : SlKpS n₀ gs A C := ⟨h.1.trans k.1, fun o e c => k.2 o (h.2 o e c) c⟩
theorem SlKpS.b {n₀ gs : Nat} {w : World} (hn : n₀ ≤ w.heap.size) (W : World) (l : Nat) (o o' : Obj) (hl : w.heap.size ≤ l) (h : W.heap[l]? = some o) (hc : o.isCells = false) (_ : o.isWalk = false) : SlKpS n₀ gs W (W.putObj l o') :=
  ⟨(Below.refl n₀ W).grown (grownBy_putObj' W l o') (by have := (Array.getElem?_eq_some_iff.1 h).1; omega) (fun k e => by cases e; omega), fun u hu cu => by
    rw [World.putObj_heap_other (fun e => by subst e; rw [h] at hu; injection hu with hu; subst hu; rw [hc] at cu; cases cu)]; exact hu⟩
theorem slcells_of_cell {W : World} {g : Nat} {v : Value} (h : W.cell? ⟨g, 0, none⟩ = some v) : ∃ o, W.heap[g]? = some o ∧ o.isCells = true := by
  unfold World.cell? at h
  cases e : W.heap[g]? with
  | none => simp [e] at h
  | some o =>
    refine ⟨o, rfl, ?_⟩
    simp only [e] at h
    cases o <;> first | rfl | (simp at h)
theorem SlKpS.cell {n₀ gs : Nat} {W W' : World} {v : Value} (h : SlKpS n₀ gs W W') (hv : W.cell? ⟨gs, 0, none⟩ = some v) : W'.cell? ⟨gs, 0, none⟩ = some v := by
  obtain ⟨o, h1, h2⟩ := slcells_of_cell hv
  rw [World.cell?_of_block ((h.2 o h1 h2).trans h1.symm)]; exact hv
theorem SlKpS.grown {n₀ gs : Nat} {W W' : World} {row : Option Nat} (hn : n₀ ≤ W.heap.size) (hg : W.grownBy W' row) (hr : ∀ r, row = some r → n₀ ≤ r ∧ r ≠ gs) : SlKpS n₀ gs W W' :=
  ⟨(Below.refl n₀ W).grown hg hn (fun k e => (hr k e).1), fun o h _ => (hg.block gs (Array.getElem?_eq_some_iff.1 h).1 (fun e => (hr gs e.symm).2 rfl)).trans h⟩
set_option maxHeartbeats 1000000 in
theorem anystep_in (F : Fence) (n : Nat) (h : F.fn 57) (hro : F.round = none) (a b c d e : Int) (w : World) :
    CallsIn F n Tryz.prog 57 #[.agg #[.int .i64 a, .int .i64 b, .int .i64 c, .int .i64 d, .int .i64 e]] w fun e' w' => e' = .returned (.bool true) ∧ w.grownBy w' none := by
  refine callsIn_of_wp Tryz.func57 rfl h ?_ hro
  simp only [Tryz.ntmps57, List.size_toArray, List.length_cons, List.length_nil, Nat.reduceAdd, Nat.reduceSub, Array.replicate_succ, Array.replicate_zero, List.push_toArray, List.append_toArray, List.nil_append, List.cons_append]
  gi_wp2
  go_ret
  exact ⟨rfl, World.grownBy_alloc _ _ _⟩
def A1Rel (ths : List (List St)) (J : List Sq → World → Prop) (n₀ gs : Nat) (W : World) (m i : Value) (wr : World) : Prop :=
  ∃ (j : Nat) (pre : List Sq), j ≤ ths.length ∧ i = .int .i64 j ∧ m = .int .i64 (ahd anyS ths j : Nat) ∧ pre.map Subtype.val = plA anyS ths j ∧ J pre wr ∧ Below n₀ W wr ∧ wr.cell? ⟨gs, 0, none⟩ = some (.func (.func 57) #[] #[])
def A2Rel (ths : List (List St)) (t : Nat) (len : Nat) (J : List Sq → World → Prop) (n₀ gs : Nat) (W : World) (m i : Value) (wr : World) : Prop :=
  ∃ (k : Nat) (pre : List Sq), k ≤ len ∧ i = .int .i64 k ∧ m = .int .i64 (sl anyS ths t k : Nat) ∧ pre.map Subtype.val = plP anyS ths t k ∧ J pre wr ∧ Below n₀ W wr ∧ wr.cell? ⟨gs, 0, none⟩ = some (.func (.func 57) #[] #[])
set_option maxRecDepth 100000 in
set_option maxHeartbeats 4000000 in
theorem all1s_in (F : Fence) (n : Nat) (h59 : F.fn 92) (h35 : F.fn 57) (hro : F.round = none) (hn : 2 ≤ n) (l n₀ n₁ gt gs : Nat) (vt : Value) (ths : List (List St)) (J Jx : List Sq → World → Prop)
    (hJ : AbidesFrom n₁ J)
    (hY : ∀ pre x W, J pre W → pre.length < many anyS ths → YieldAt F (n - 1) Tryz.prog l (encs x) W fun e W' =>
      (e = .returned (.bool true) ∧ J (pre ++ [x]) W' ∧ SlKpS n₀ gs W W') ∨ (e = .returned (.bool false) ∧ Jx (pre ++ [x]) W'))
    (W : World) (hn₀ : n₀ ≤ W.heap.size) (ct : W.cell? ⟨gt, 0, none⟩ = some vt) (cs : W.cell? ⟨gs, 0, none⟩ = some (.func (.func 57) #[] #[])) (hth : Sss n₀ W vt ths)
    (hl : ths.length ≤ 1000000) (hll : ∀ ss ∈ ths, ss.length ≤ 1000000) (h0 : J [] W) :
    CallsIn F n Tryz.prog 92 #[.func (.yield l) #[] #[], .pointer (some ⟨gt, 0, none⟩), .pointer (some ⟨gs, 0, none⟩)] W fun e W' => (∃ v, e = .returned v) ∧
      ((∃ ys : List Sq, ys.map Subtype.val = pls anyS ths ∧ J ys W') ∨ (∃ pre : List Sq, pre.map Subtype.val <+: pls anyS ths ∧ Jx pre W')) := by
  have HLL := Lib.hid (fun (t : Nat) (ht : t < ths.length) => hll ths[t] (List.getElem_mem ht))
  have HJ := Lib.hid hJ
  have HY := Lib.hid hY
  have HMM := Lib.hid (many_le anyS (M := 1000000) ths (Nat.le_refl _) hll)
  have HTH := Lib.hid hth
  obtain ⟨A0, c0, rfl, hc1, hc2, hc3⟩ := hth
  unfold maxLen at hc2
  have h1 : 1 ≤ n := by omega
  have hgs0 : gs < W.heap.size := by obtain ⟨o, h, -⟩ := slcells_of_cell cs; exact (Array.getElem?_eq_some_iff.1 h).1
  clear hll hJ hY
  refine callsIn_of_wp Tryz.func92 rfl h59 ?_ hro
  simp only [Tryz.ntmps92, List.size_toArray, List.length_cons, List.length_nil, Nat.reduceAdd, Nat.reduceSub, Array.replicate_succ, Array.replicate_zero, List.push_toArray, List.append_toArray, List.nil_append, List.cons_append]
  gi_wp2
  gi_loopw [4, 11] (fun m i wr => A1Rel ths J n₀ gs W m i wr) (fun _ i _ => ths.length - (intOf i).toNat)
  case atStart => exact ⟨0, [], Nat.zero_le _, rfl, rfl, rfl, h0, Below.refl _ _, cs⟩
  case round =>
    obtain ⟨j, pre, hj, rfl, rfl, hp, hJs, hB, hG⟩ := hrel
    by_cases hlt : j < ths.length
    · obtain ⟨b1, f1, rfl, hb1, hcl⟩ := hc3 (by omega)
      obtain ⟨vs, hv, hsts⟩ := hcl j hlt
      have hv' := (hB.cell (p := ⟨b1, f1 + j, none⟩) hb1).trans hv
      obtain ⟨A1, c1, rfl, hd1, hd2, hd3⟩ := hsts
      have hlen := HLL.out j hlt
      unfold maxLen at hd2
      have HS0 := Lib.hid (sl_zero anyS ths j)
      have HP0 := Lib.hid (plP_zero anyS ths j)
      have HSN := Lib.hid (fun (k : Nat) (hk : k < ths[j].length) => sl_next anyS ths hlt hk)
      have HPN := Lib.hid (fun (k : Nat) (hk : k < ths[j].length) => show plP anyS ths j (k + 1) = plP anyS ths j k ++ [⟨sl anyS ths j k, j, k⟩] by rw [plP_next, isS_any ths hlt hk]; rfl)
      have HSL := Lib.hid (fun (k : Nat) (hk : k < ths[j].length) => sl_lt anyS ths hlt hk rfl)
      have HPL := Lib.hid (fun (k : Nat) (hk : k ≤ ths[j].length) => plP_len anyS ths hlt hk)
      have HPP := Lib.hid (fun (k : Nat) (hk : k ≤ ths[j].length) => plP_pre anyS ths hlt hk)
      have HSE := Lib.hid (sl_end anyS ths hlt)
      have HPE := Lib.hid (plP_end anyS ths hlt)
      generalize ths[j] = ss at *
      clear hcl hv hc3
      gi_wp2
      gi_loopw [4, 18] (fun m i wr => A2Rel ths j ss.length J n₀ gs W m i wr) (fun _ i _ => ss.length - (intOf i).toNat)
      case atStart => exact ⟨0, pre, Nat.zero_le _, rfl, by rw [HS0.out], by rw [HP0.out]; exact hp, hJs, hB, hG⟩
      case round =>
        clear hp hJs hB hv' hG
        obtain ⟨k, pre, hk, rfl, rfl, hp, hJs, hB, hG⟩ := hrel
        by_cases hlt2 : k < ss.length
        · obtain ⟨b2, f2, rfl, hb2, hst⟩ := hd3 (by omega)
          obtain ⟨z0, z1, z2, z3, z4⟩ := (hst k hlt2).below hB hb2
          have hkl := HSL.out k hlt2
          have hM := HMM.out
          have hnl : pre.length < many anyS ths := by rw [sq_len hp, HPL.out k (by omega)]; exact hkl
          have hsm : sl anyS ths j k < 1099511627776 ∧ j < 1099511627776 ∧ k < 1099511627776 := by
            have : ths.length * 1000000 ≤ 1000000 * 1000000 := Nat.mul_le_mul_right _ hl
            omega
          have hSn := Lib.hid (HSN.out k hlt2)
          have hPn := Lib.hid (HPN.out k hlt2)
          have hst2 := HPP.out (k + 1) (by omega)
          generalize ss[k] = x at *
          generalize hs : sl anyS ths j k = q at *
          clear hst
          have hws := hB.size
          have hgs' : gs < wr.heap.size := by obtain ⟨o, h, -⟩ := slcells_of_cell hG; exact (Array.getElem?_eq_some_iff.1 h).1
          have hb2' : b2 < wr.heap.size := by omega
          gi_wp2_with (gi_at_call 57; refine (anystep_in F (n - 1) h35 hro _ _ _ _ _ _).mono ?_; rintro e w3 ⟨rfl, hg3⟩; have hg := (World.grownBy_alloc wr (.cells #[.int .i64 x.op, .int .i64 x.reg, .int .i64 x.loc, .int .i64 x.n, .int .i64 x.to] 75) none).trans hg3; have hJ3 := HJ.out _ _ _ none hJs hg (fun r e => by cases e); obtain ⟨fn, tmps, assign, body, hy, hR⟩ := HY.out pre ⟨⟨q, j, k⟩, hsm⟩ w3 hJ3 hnl; dsimp only [encs] at hy)
          refine hR.mono ?_
          rintro e W4 (⟨rfl, hJ4, hk4⟩ | ⟨rfl, hJx4⟩)
          · have hB4 : Below n₀ W W4 := (hB.grown hg (by omega) (fun r e => by cases e)).trans hk4.1
            have hG4 := hk4.cell (hg.cell hG (fun e => by cases e))
            gi_wp2
            go_roundw
            case rel =>
              refine ⟨k + 1, _, by omega, by go_num, ?_, ?_, hJ4, hB4, hG4⟩
              · rw [hSn.out]; simp [anyS]
              · rw [hPn.out]; exact sq_snoc hp hsm
            case measure => simp [intOf]; omega
          · gi_wp2
            refine bodyPost_ret (results_none rfl _ _ _) rfl ?_
            refine ⟨⟨_, rfl⟩, .inr ⟨_, ?_, hJx4⟩⟩
            rw [sq_snoc hp hsm, ← hPn.out]; exact hst2
        · obtain rfl : ss.length = k := by omega
          gi_wp2
          go_roundw
          case rel => exact ⟨j + 1, pre, by omega, by go_num, by rw [HSE.out], by rw [hp, HPE.out], hJs, hB, hG⟩
          case measure => simp [intOf]; omega
    · obtain rfl : ths.length = j := by omega
      gi_wp2
      go_end0
      exact ⟨⟨_, rfl⟩, .inl ⟨pre, hp, hJs⟩⟩
/-- What a loop over the slots is handed. -/
theorem alls_stops (F : Fence) (n : Nat) (h59 : F.fn 92) (h35 : F.fn 57) (hro : F.round = none) (hn : 2 ≤ n) (n₀ gt gs : Nat) (vt : Value) (ths : List (List St)) (w : World)
    (hn₀ : n₀ ≤ w.heap.size) (ct : w.cell? ⟨gt, 0, none⟩ = some vt) (cs : w.cell? ⟨gs, 0, none⟩ = some (.func (.func 57) #[] #[])) (hth : Sss n₀ w vt ths)
    (hl : ths.length ≤ 1000000) (hll : ∀ ss ∈ ths, ss.length ≤ 1000000) :
    SeqStopsK F n Tryz.prog 92 #[.pointer (some ⟨gt, 0, none⟩), .pointer (some ⟨gs, 0, none⟩)] encs (SlKpS n₀ gs) (fun ys : List Sq => ys.map Subtype.val = pls anyS ths) (fun pre => pre.map Subtype.val <+: pls anyS ths) (many anyS ths) w :=
  fun l J Jx W hW hJ _ hY h0 => all1s_in F n h59 h35 hro hn l n₀ W.heap.size gt gs vt ths J Jx hJ hY W (Nat.le_trans hn₀ hW.size) (kc hW ct) (kc hW cs) (hth.below (hW.mono hn₀)) hl hll h0
set_option maxHeartbeats 1000000 in
theorem alls_in (F : Fence) (n : Nat) (h : F.fn 74) (hro : F.round = none) (A : Option Addr) (m c : Nat) (w : World) :
    CallsIn F n Tryz.prog 74 #[.slice A m c, .func (.func 57) #[] #[]] w fun e w' => e = .returned (.func (.func 92) #[] #[.pointer (some ⟨w.heap.size, 0, none⟩), .pointer (some ⟨w.heap.size + 1, 0, none⟩)]) ∧
      w' = (w.alloc (.cells #[.slice A m c] 23)).alloc (.cells #[.func (.func 57) #[] #[]] 98) := by
  refine callsIn_of_wp Tryz.func74 rfl h ?_ hro
  simp only [Tryz.ntmps74, List.size_toArray, List.length_cons, List.length_nil, Nat.reduceAdd, Nat.reduceSub, Array.replicate_succ, Array.replicate_zero, List.push_toArray, List.append_toArray, List.nil_append, List.cons_append]
  gi_wp2
  go_ret
  exact ⟨rfl, rfl⟩
/-- Behind 'all': the two boxes. -/
theorem alls_boxes (w : World) (v u : Value) (T U : TypeId) : ((w.alloc (.cells #[v] T)).alloc (.cells #[u] U)).cell? ⟨w.heap.size, 0, none⟩ = some v ∧ ((w.alloc (.cells #[v] T)).alloc (.cells #[u] U)).cell? ⟨w.heap.size + 1, 0, none⟩ = some u ∧ Below w.heap.size w ((w.alloc (.cells #[v] T)).alloc (.cells #[u] U)) := by
  have b1 := (Boxed.new w T v).alloc (.cells #[u] U)
  have b2 := Boxed.new (w.alloc (.cells #[v] T)) U u
  rw [World.size_alloc] at b2
  exact ⟨b1.cell, b2.cell, ((Below.refl _ w).alloc (Nat.le_refl _) _).alloc (by simp) _⟩
end Go.Proofs.YtlpjgaeelnlipaaGreat
namespace Go.Proofs.YtlpjgaeelnlipaaGreat
open Go.RowKit Go.Shelf
attribute [local go_sem] Oper.semAt_some
open CodM (St Pg)
open SlM

set_option maxRecDepth 100000 in
set_option maxHeartbeats 2000000 in
theorem counts_in (F : Fence) (n : Nat) (h44 : F.fn 72) (h34 : F.fn 74) (h59 : F.fn 92) (h35 : F.fn 57) (hro : F.round = none) (hn : 4 ≤ n) {B : Nat} {v : Value} {ths : List (List St)} (w : World)
    (hv : Sss B w v ths) (hBB : B ≤ w.heap.size) (hl : ths.length ≤ 1000000) (hll : ∀ ss ∈ ths, ss.length ≤ 1000000) :
    CallsIn F n Tryz.prog 72 #[v, .func (.func 57) #[] #[]] w fun e w' => e = .returned (.int .i64 (many anyS ths : Nat)) ∧ Below w.heap.size w w' := by
  have h1 : 1 ≤ n := by omega
  have HV := Lib.hid hv
  have HLL := Lib.hid hll
  obtain ⟨A, c, rfl, hc1, hc2, -⟩ := hv
  have hM : many anyS ths ≤ 1000000 * 1000000 := many_le anyS ths hl hll
  refine callsIn_of_wp_marks Tryz.func72 rfl h44 ?_ hro
  simp only [Tryz.ntmps72, List.size_toArray, List.length_cons, List.length_nil, Nat.reduceAdd, Nat.reduceSub, Array.replicate_succ, Array.replicate_zero, List.push_toArray, List.append_toArray, List.nil_append, List.cons_append]
  gi_wp2_with (gi_at_call 74; refine (alls_in F (n - 1) h34 hro _ _ _ _).mono ?_; rintro e w' ⟨rfl, rfl⟩)
  obtain ⟨bt, bs, hb2⟩ := alls_boxes (w.alloc (.cells #[.int .i64 0] 3)) (.slice A ths.length c) (.func (.func 57) #[] #[]) 23 98
  have bm := ((Boxed.new w 3 (.int .i64 0)).alloc (.cells #[.slice A ths.length c] 23)).alloc (.cells #[.func (.func 57) #[] #[]] 98)
  have hB := ((Below.refl _ w).alloc (Nat.le_refl _) (.cells #[.int .i64 0] 3)).trans (hb2.mono (by simp))
  rw [World.size_alloc] at bt bs
  refine wpIn_rangeFunc_ownG hro h1 (gf := 92) (lb := #[.pointer (some ⟨w.heap.size + 1, 0, none⟩), .pointer (some ⟨w.heap.size + 1 + 1, 0, none⟩)]) rfl h59 (enters_of Tryz.func92 (by kernel_rfl) rfl)
    (alls_stops F (n - 1) h59 h35 hro (by omega) w.heap.size _ _ _ ths _ (by simp; omega) bt bs ((HV.out.more hBB).below hB) hl HLL.out) SlKpS.t (SlKpS.b (by simp; omega)) (Below.refl _ _) (fun _ => rfl)
    (fun pre W => Boxed W w.heap.size 3 (.int .i64 (pre.length : Nat)) ∧ Below w.heap.size w W)
    (fun _ _ _ => False)
    (OwnFrom.and (Own.from (boxed_own _ _ (fun pre : List Sq => .int .i64 (pre.length : Nat))) _) (ownFrom_below (Nat.le_refl _) (by simp; omega)))
    (fun _ _ _ _ _ hs _ _ => hs)
    ⟨bm, hB⟩
    (fun x => { tmps := #[.slice A ths.length c, .func (.func 57) #[] #[], undef, undef, .int .i64 0, .pointer (some ⟨w.heap.size, 0, none⟩), .slice A ths.length c, .func (.func 57) #[] #[], .func (.func 92) #[] #[.pointer (some ⟨w.heap.size + 1, 0, none⟩), .pointer (some ⟨w.heap.size + 1 + 1, 0, none⟩)], .int .i64 (x.1.n : Int), .agg #[.int .i64 (x.1.t : Int), .int .i64 (x.1.k : Int)], undef, undef, undef], defers := [] }) ?assign ?body ?done ?stop
  case assign =>
    intro l x W K hK
    dsimp only [encs]
    gi_wp2
    simpa using hK
  case body =>
    rintro l pre x W ⟨hb, hB⟩ hlt
    have hc := hb.cell
    have hf := hb.frozen
    gi_wp2
    exact ⟨(KeepsOthers.setCell _ _ _).from _, SlKpS.grown hB.size (grownBy_setCell' W w.heap.size _) (fun r e => by cases e; exact ⟨Nat.le_refl _, by omega⟩), by have := hb.set (.int .i64 ((pre.length : Int) + 1)); simpa using this, hB.setCell (p := ⟨w.heap.size, 0, none⟩) (Nat.le_refl _) _⟩
  case done =>
    rintro D ys W hD hys ⟨hb, hB⟩ hK
    rw [sq_len hys, pls_len] at hb
    have hc := hb.cell
    gi_wp2
    refine ⟨by simp, .inl ⟨_, _, rfl, run_takeDeferred hK, ?_⟩⟩
    exact ⟨_, results_tmp rfl _ _ _, rfl, hB.trans (belowK_b (w := w) (Nat.le_refl _) W D _ _ (by simp at hD; omega) hK rfl rfl)⟩
  case stop =>
    rintro D cc pre W _ _ h _
    exact h.elim
end Go.Proofs.YtlpjgaeelnlipaaGreat
namespace Go.Proofs.YtlpjgaeelnlipaaGreat
open Go.RowKit Go.Shelf
attribute [local go_sem] Oper.semAt_some
open CodM (St Pg)
open SlM

/-- A box of two cells. -/
def SlBox2 (W : World) (B : Nat) (T : TypeId) (u v : Value) : Prop := W.heap[B]? = some (.cells #[u, v] T (0, 0))
theorem SlBox2.lt {W : World} {B : Nat} {T : TypeId} {u v : Value} (h : SlBox2 W B T u v) : B < W.heap.size := (Array.getElem?_eq_some_iff.1 h).1
theorem SlBox2.cell0 {W : World} {B : Nat} {T : TypeId} {u v : Value} (h : SlBox2 W B T u v) : W.cell? ⟨B, 0, none⟩ = some u := by simp [World.cell?, show W.heap[B]? = _ from h]
theorem SlBox2.cell1 {W : World} {B : Nat} {T : TypeId} {u v : Value} (h : SlBox2 W B T u v) : W.cell? ⟨B, 1, none⟩ = some v := by simp [World.cell?, show W.heap[B]? = _ from h]
theorem SlBox2.new (W : World) (T : TypeId) (u v : Value) : SlBox2 (W.alloc (.cells #[u, v] T)) W.heap.size T u v := World.alloc_heap_new W _
theorem SlBox2.kept {W W' : World} {row : Option Nat} {B : Nat} {T : TypeId} {u v : Value} (h : SlBox2 W B T u v) (hg : W.grownBy W' row) (hne : some B ≠ row) : SlBox2 W' B T u v := (hg.block B h.lt hne).trans h
theorem slbox2_own {β : Type} (B : Nat) (T : TypeId) (u v : Value) : Own (fun (_ : β) W => SlBox2 W B T u v) := fun s X Y row hs hg hrow =>
  hs.kept hg (fun e' => by obtain ⟨o, ho, hc⟩ := hrow B e'.symm; rw [show X.heap[B]? = _ from hs] at ho; cases ho; cases hc)
set_option maxRecDepth 100000 in
set_option maxHeartbeats 2000000 in
theorem num_in (F : Fence) (n : Nat) (h19 : F.fn 80) (h34 : F.fn 74) (h59 : F.fn 92) (h35 : F.fn 57) (hro : F.round = none) (hn : 4 ≤ n) {B : Nat} {vi vt : Value} {ths : List (List St)} (th at' : Int) (w : World)
    (hvi : ∃ A m c, vi = .slice A m c) (hv : Sss B w vt ths) (hBB : B ≤ w.heap.size) (hl : ths.length ≤ 1000000) (hll : ∀ ss ∈ ths, ss.length ≤ 1000000) :
    CallsIn F n Tryz.prog 80 #[.agg #[vi, vt], .int .i64 th, .int .i64 at'] w fun e w' => e = .returned (.int .i64 (numI ths th at')) ∧ Below w.heap.size w w' := by
  have h1 : 1 ≤ n := by omega
  have HV := Lib.hid hv
  have HLL := Lib.hid hll
  obtain ⟨Ai, mi, ci, rfl⟩ := hvi
  obtain ⟨A, c, rfl, hc1, hc2, -⟩ := hv
  refine callsIn_of_wp_marks Tryz.func80 rfl h19 ?_ hro
  simp only [Tryz.ntmps80, List.size_toArray, List.length_cons, List.length_nil, Nat.reduceAdd, Nat.reduceSub, Array.replicate_succ, Array.replicate_zero, List.push_toArray, List.append_toArray, List.nil_append, List.cons_append]
  gi_wp2_with (gi_at_call 74; refine (alls_in F (n - 1) h34 hro _ _ _ _).mono ?_; rintro e w' ⟨rfl, rfl⟩)
  obtain ⟨W0, hW0⟩ : ∃ W0, W0 = (((w.alloc (.cells #[.slice Ai mi ci, .slice A ths.length c] 25)).alloc (.cells #[.int .i64 th] 3)).alloc (.cells #[.int .i64 at'] 3)).alloc (.cells #[.int .i64 0] 3) := ⟨_, rfl⟩
  have hs0 : W0.heap.size = w.heap.size + 1 + 1 + 1 + 1 := by rw [hW0]; simp
  have b1 : Boxed W0 (w.heap.size + 1) 3 (.int .i64 th) := by
    have := ((Boxed.new (w.alloc (.cells #[.slice Ai mi ci, .slice A ths.length c] 25)) 3 (.int .i64 th)).alloc (.cells #[.int .i64 at'] 3)).alloc (.cells #[.int .i64 0] 3)
    rw [World.size_alloc] at this; rw [hW0]; exact this
  have b2 : Boxed W0 (w.heap.size + 1 + 1) 3 (.int .i64 at') := by
    have := (Boxed.new ((w.alloc (.cells #[.slice Ai mi ci, .slice A ths.length c] 25)).alloc (.cells #[.int .i64 th] 3)) 3 (.int .i64 at')).alloc (.cells #[.int .i64 0] 3)
    rw [World.size_alloc, World.size_alloc] at this; rw [hW0]; exact this
  have b3 : Boxed W0 (w.heap.size + 1 + 1 + 1) 3 (.int .i64 0) := by
    have := Boxed.new (((w.alloc (.cells #[.slice Ai mi ci, .slice A ths.length c] 25)).alloc (.cells #[.int .i64 th] 3)).alloc (.cells #[.int .i64 at'] 3)) 3 (.int .i64 0)
    rw [World.size_alloc, World.size_alloc, World.size_alloc] at this; rw [hW0]; exact this
  have hB0 : Below w.heap.size w W0 := by rw [hW0]; exact below_al (below_al (below_al (below_al (Below.refl _ w) _) _) _) _
  rw [← hW0]
  obtain ⟨bt, bs, hb2⟩ := alls_boxes W0 (.slice A ths.length c) (.func (.func 57) #[] #[]) 23 98
  have b1' := (b1.alloc (.cells #[.slice A ths.length c] 23)).alloc (.cells #[.func (.func 57) #[] #[]] 98)
  have b2' := (b2.alloc (.cells #[.slice A ths.length c] 23)).alloc (.cells #[.func (.func 57) #[] #[]] 98)
  have b3' := (b3.alloc (.cells #[.slice A ths.length c] 23)).alloc (.cells #[.func (.func 57) #[] #[]] 98)
  have hB := hB0.trans (hb2.mono hB0.size)
  clear b1 b2 b3 hW0
  rw [← hs0]
  refine wpIn_rangeFunc_ownH hro h1 (gf := 92) (lb := #[.pointer (some ⟨W0.heap.size, 0, none⟩), .pointer (some ⟨W0.heap.size + 1, 0, none⟩)]) rfl h59 (enters_of Tryz.func92 (by kernel_rfl) rfl)
    (alls_stops F (n - 1) h59 h35 hro (by omega) w.heap.size _ _ _ ths _ (by simp; omega) bt bs ((HV.out.more hBB).below hB) hl HLL.out) SlKpS.t (SlKpS.b (by simp; omega)) (Below.refl _ _) (fun _ => rfl)
    (fun pre W => (Boxed W (w.heap.size + 1) 3 (.int .i64 th) ∧ Boxed W (w.heap.size + 1 + 1) 3 (.int .i64 at') ∧ Boxed W (w.heap.size + 1 + 1 + 1) 3 (.int .i64 0)) ∧ Below w.heap.size w W ∧ ∀ y ∈ pre, ¬ (((y : Sq).1.t : Int) = th ∧ (y.1.k : Int) = at'))
    (fun c pre W => c = .ret ∧ (∃ y ∈ pre, (((y : Sq).1.t : Int) = th ∧ (y.1.k : Int) = at') ∧ Boxed W (w.heap.size + 1 + 1 + 1) 3 (.int .i64 (y.1.n : Int))) ∧ Below w.heap.size w W)
    (OwnFrom.and (OwnFrom.and (Own.from (boxed_own _ _ (fun _ : List Sq => .int .i64 th)) _) (OwnFrom.and (Own.from (boxed_own _ _ (fun _ : List Sq => .int .i64 at')) _) (Own.from (boxed_own _ _ (fun _ : List Sq => .int .i64 0)) _))) (OwnFrom.and (ownFrom_below (Nat.le_refl _) (by simp; omega)) (ownFrom_pure _ _)))
    (fun c s A B row hs hg hr => ⟨hs.1, by obtain ⟨-, ⟨y, hy, he, hb⟩, -⟩ := hs; exact ⟨y, hy, he, (boxed_own _ _ (fun _ : Unit => .int .i64 (y.1.n : Int))) () A B row hb hg (fun r e => (hr r e).2)⟩, (ownFrom_below (β := Unit) (Nat.le_refl _) (by simp; omega)) () A B row hs.2.2 hg hr⟩)
    ⟨⟨b1', b2', b3'⟩, hB, by simp⟩
    (fun x a' W => ∃ Bx, w.heap.size + 1 + 1 + 1 < Bx ∧ SlBox2 W Bx 117 (.int .i64 (x.1.t : Int)) (.int .i64 (x.1.k : Int)) ∧ a' = { tmps := #[.agg #[.slice Ai mi ci, .slice A ths.length c], .int .i64 th, .int .i64 at', .pointer (some ⟨w.heap.size, 0, none⟩), .pointer (some ⟨w.heap.size + 1, 0, none⟩), .pointer (some ⟨w.heap.size + 1 + 1, 0, none⟩), .pointer (some ⟨w.heap.size + 1 + 1 + 1, 0, none⟩), .int .i64 (x.1.n : Int), .pointer (some ⟨Bx, 0, none⟩), .pointer (some ⟨w.heap.size, 1, none⟩), .slice A ths.length c, .func (.func 92) #[] #[.pointer (some ⟨W0.heap.size, 0, none⟩), .pointer (some ⟨W0.heap.size + 1, 0, none⟩)], .int .i64 (x.1.n : Int), .agg #[.int .i64 (x.1.t : Int), .int .i64 (x.1.k : Int)], undef, undef, undef, undef, undef, undef], defers := [] })
    (fun x a' s A B row hs hg hr => by obtain ⟨Bx, h1, h2, h3⟩ := hs; exact ⟨Bx, h1, (slbox2_own (β := Unit) Bx _ _ _) () A B row h2 hg (fun r e => (hr r e).2), h3⟩)
    ?assign ?body ?done ?stop
  case assign =>
    rintro l pre x W K ⟨⟨h1, h2, h3⟩, hB, hno⟩ hK
    dsimp only [encs]
    gi_wp2
    exact hK _ _ ((KeepsOthers.alloc _ _).from _) (SlKpS.grown hB.size (World.grownBy_alloc _ _ none) (fun r e => by cases e)) ⟨⟨h1.alloc _, h2.alloc _, h3.alloc _⟩, hB.alloc hB.size _, hno⟩ ⟨W.heap.size, h3.lt, SlBox2.new W _ _ _, by simp⟩
  case body =>
    rintro l pre x a' W hll ⟨r, hr⟩ ⟨⟨h1, h2, h3⟩, hB, hno⟩ ⟨Bx, hBx, hx, rfl⟩ hlt
    have c1 := h1.cell
    have c2 := h2.cell
    have c3 := h3.cell
    have f3 := h3.frozen
    have x0 := hx.cell0
    have x1 := hx.cell1
    have hmiss : ¬ ((x.1.t : Int) = th ∧ (x.1.k : Int) = at') → ∀ y ∈ pre ++ [x], ¬ (((y : Sq).1.t : Int) = th ∧ (y.1.k : Int) = at') := fun h y hy => by
      rcases List.mem_append.1 hy with hy | hy
      · exact hno y hy
      · rw [List.mem_singleton.1 hy]; exact h
    by_cases e1 : (x.1.t : Int) = th
    · by_cases e2 : (x.1.k : Int) = at'
      · gi_wp2
        exact ⟨(KeepsOthers.setCell _ _ _).from _, rfl, ⟨x, by simp, ⟨e1, e2⟩, h3.set _⟩, hB.setCell (p := ⟨w.heap.size + 1 + 1 + 1, 0, none⟩) (by show _ ≤ w.heap.size + 1 + 1 + 1; omega) _⟩
      · gi_wp2
        exact ⟨KeepsFrom.refl _ _, ⟨Below.refl _ _, fun _ h _ => h⟩, ⟨h1, h2, h3⟩, hB, hmiss (fun h => e2 h.2)⟩
    · gi_wp2
      exact ⟨KeepsFrom.refl _ _, ⟨Below.refl _ _, fun _ h _ => h⟩, ⟨h1, h2, h3⟩, hB, hmiss (fun h => e1 h.1)⟩
  case done =>
    rintro D ys W hD hys ⟨⟨h1, h2, h3⟩, hB, hno⟩ hK
    have c3 := h3.cell
    have f3 := h3.frozen
    gi_wp2
    have hK' := (KeepsOthers.setCell W ⟨w.heap.size + 1 + 1 + 1, 0, none⟩ (.int .i64 (-1))).same D _ hK rfl
    refine ⟨by simp, .inl ⟨_, _, rfl, run_takeDeferred hK', ?_⟩⟩
    have hc5 := cell_kept (World.cell?_setCell_same' W ⟨w.heap.size + 1 + 1 + 1, 0, none⟩ (.int .i64 (-1)) (by rw [c3]; rfl)) (grownBy_putObj' _ D (.deferred none)) (fun r e => by cases e; exact ⟨_, hK', rfl⟩)
    refine ⟨.int .i64 (-1), ?_, ?_, ?_⟩
    · simp [results, Tryz.f80, go_sem, hc5]
    · rw [numI_no]
      intro u j hu hj he
      have hm : (⟨sl anyS ths u j, u, j⟩ : Sp) ∈ pls anyS ths := (mem_pls anyS ths _).2 ⟨u, j, hu, by rw [SlM.getD_at hu]; exact hj, isS_any ths hu hj, rfl⟩
      rw [← hys] at hm
      obtain ⟨y, hy, e⟩ := List.mem_map.1 hm
      exact hno y hy (by rw [e]; exact he)
    · exact (hB.setCell (p := ⟨w.heap.size + 1 + 1 + 1, 0, none⟩) (by show _ ≤ w.heap.size + 1 + 1 + 1; omega) _).trans (belowK_b (w := w) (Nat.le_refl _) _ D _ _ (by simp at hD; omega) hK' rfl rfl)
  case stop =>
    rintro D cc pre W hD hSp ⟨rfl, ⟨y, hy, ⟨rfl, rfl⟩, hb⟩, hB⟩ hK
    have hc := hb.cell
    obtain ⟨t, k, ht, hk, -, e⟩ := (mem_pls anyS ths y.1).1 (hSp.subset (List.mem_map_of_mem hy))
    rw [SlM.getD_at ht] at hk
    gi_wp2
    refine ⟨by simp, .inl ⟨_, _, rfl, run_takeDeferred hK, ?_⟩⟩
    have hc5 := cell_kept hc (grownBy_putObj' _ D (.deferred none)) (fun r e => by cases e; exact ⟨_, hK, rfl⟩)
    refine ⟨.int .i64 (y.1.n : Int), ?_, ?_, ?_⟩
    · simp [results, Tryz.f80, go_sem, hc5]
    · rw [e, numI_hit ht hk, sl_any ths ht (by omega)]
    · exact hB.trans (belowK_b (w := w) (Nat.le_refl _) _ D _ _ (by simp at hD; omega) hK rfl rfl)
end Go.Proofs.YtlpjgaeelnlipaaGreat
namespace Go.Proofs.YtlpjgaeelnlipaaGreat
open Go Go.RowKit
section
variable {F : Fence} {n : Nat} {P : Program}
/-- Whatever j says stays, behind what such an iterator does from block N on. -/
def ItAb (N : Nat) (T : TypeId) (J : Nat → World → Prop) : Prop := ∀ k A B row, J k A → A.grownBy B row → (∀ r, row = some r → N ≤ r ∧ ∃ o : Obj, A.heap[r]? = some o ∧ (o.isWalk = true ∨ ∃ cs ro, o = .cells cs T ro)) → J k B
/-- The loop's own: it stays behind whatever alters no cells but those of that type. -/
def ItOwn (N : Nat) (T : TypeId) (I : Nat → World → Prop) : Prop := ∀ k A B row, I k A → A.grownBy B row → (∀ r, row = some r → N ≤ r ∧ ∃ o : Obj, A.heap[r]? = some o ∧ (o.isCells = false ∨ ∃ cs ro, o = .cells cs T ro)) → I k B
/-- An iterator that tells the elements of E. -/
def ItTells (F : Fence) (n : Nat) (P : Program) {α : Type} (g : Nat) (lb : Array Value) (T : TypeId) (encs : α → Array Value) (E : List α) (Kp : Nat → World → World → Prop) (w : World) : Prop :=
  ∀ (lp : Nat) (J : Nat → World → Prop) (Jx : World → Prop) (W : World), Below w.heap.size w W → ItAb W.heap.size T J →
    (∀ k (hk : k < E.length) W1, J k W1 → YieldAt F (n - 1) P lp (encs E[k]) W1 fun e W' => (e = .returned (.bool true) ∧ J (k + 1) W' ∧ Kp W.heap.size W1 W') ∨ (e = .returned (.bool false) ∧ Jx W')) →
    J 0 W → CallsIn F n P g (#[.func (.yield lp) #[] #[]] ++ lb) W fun e W' => (∃ v, e = .returned v) ∧ (J E.length W' ∨ Jx W')
/-- What a round leaves. -/
def itPost (M : Nat) (Kp : World → World → Prop) (I : World → Prop) (Ix : World → Prop) (W : World) : Exit → Act → World → Prop
  | .normal, _, W' => KeepsFrom M W W' ∧ Kp W W' ∧ I W'
  | .ret, _, W' => KeepsFrom M W W' ∧ Ix W'
  | _, _, _ => False
theorem range_it {α : Type} {g : Operand} {ps : Array Tmp} {assign body : Code} {Q : Exit → Act → World → Prop} {a : Act} {w : World} (hro : F.round = none) (h1 : 1 ≤ n)
    {gf : Nat} {lb : Array Value} (hg : a.eval g = .func (.func gf) #[] lb) (hFg : F.fn gf) (eg : ∀ args w, (callFunc gf args).run P w = .ok (.enter gf args) w)
    {T : TypeId} {encs : α → Array Value} {E : List α} {Kp : Nat → World → World → Prop} {w0 : World} (hseq : ItTells F (n - 1) P gf lb T encs E Kp w0) (hb0 : Below w0.heap.size w0 w) (hps : ∀ x, (encs x).size = ps.size)
    (hKt : ∀ N {A B C : World}, Kp N A B → Kp N B C → Kp N A C) (hKb : ∀ N (A : World) l o o', w.heap.size ≤ l → A.heap[l]? = some o → o.isCells = false → Kp N A (A.putObj l o'))
    (hKg : ∀ N (A B : World), w.heap.size ≤ A.heap.size → A.grownBy B none → Kp N A B)
    (I : Nat → World → Prop) (Ix : World → Prop) (Ax : Nat → Act → World → Prop) (hI : ItOwn w.heap.size T I) (h0 : I 0 w)
    (hA : ∀ k a' (A : World) l o o', Ax k a' A → w.heap.size ≤ l → A.heap[l]? = some o → o.isCells = false → Ax k a' (A.putObj l o'))
    (hIx : ∀ (A : World) l o o', Ix A → w.heap.size ≤ l → A.heap[l]? = some o → o.isCells = false → Ix (A.putObj l o'))
    (hassign : ∀ lp k (hk : k < E.length) W (K : Act → World → Prop), I k W → w.heap.size ≤ W.heap.size → (∀ a' W', W.grownBy W' none → Ax k a' W' → K a' W') →
      assign.wpIn (F.inRound lp) (n - 1 - 1) P (Exit.then K (fun _ _ _ => False)) { tmps := (ps.zip (encs E[k])).foldl (fun t (p, v) => t.setIfInBounds p v) a.tmps, defers := [] } W)
    (hbody : ∀ lp k (hk : k < E.length) a' W, w.heap.size ≤ lp → Ax k a' W → body.wpIn (F.inRound lp) (n - 1 - 1) P (itPost w.heap.size (Kp (w.heap.size + 2)) (I (k + 1)) Ix W) a' W)
    (hdone : ∀ D W, w.heap.size ≤ D → I E.length W → W.heap[D]? = some (.deferred (some [])) → Q .normal { a with defers := { target := .collected D, args := #[] } :: a.defers } W)
    (hstop : ∀ D W, w.heap.size ≤ D → Ix W → W.heap[D]? = some (.deferred (some [])) → Code.ret.wpIn F n P Q { a with defers := { target := .collected D, args := #[] } :: a.defers } W) :
    (Code.rangeFunc g ps assign body).wpIn F n P Q a w := by
  refine wpIn_rangeFunc fun fn hfn => ?_
  rw [hro]
  -- the two blocks that the loop lays: what is deferred, and its record
  let rec0 : LoopState → Option Code → Loop := fun st pe => { state := st, pending := pe, fn := fn, tmps := a.tmps, params := ps, assign := assign, body := body, defers := w.heap.size }
  let Wl : World := (w.alloc (.deferred (some []))).alloc (.loop (rec0 .ready none))
  have hsz : Wl.heap.size = w.heap.size + 2 := by show ((w.alloc _).alloc _).heap.size = _; simp
  have hL : Wl.heap[w.heap.size + 1]? = some (.loop (rec0 .ready none)) := by
    have h := World.alloc_heap_new (w.alloc (.deferred (some []))) (.loop (rec0 .ready none)); rwa [World.size_alloc] at h
  have hD : Wl.heap[w.heap.size]? = some (.deferred (some [])) := (Below.heap_alloc _ _ _ (by simp)).trans (World.alloc_heap_new w _)
  have hgn : ∀ {A B : World}, I 0 A → A.grownBy B none → I 0 B := fun h k => hI 0 _ _ none h k (fun r e => by cases e)
  have hIl : I 0 Wl := hgn (hgn h0 (World.grownBy_alloc w _ none)) (World.grownBy_alloc _ _ none)
  have hbl : Below w0.heap.size w0 Wl := hb0.trans ((((Below.refl _ w).alloc (Nat.le_refl _) _).alloc (by simp) _).mono hb0.size)
  refine ⟨w.heap.size + 1, [{ target := .collected w.heap.size, args := #[] }], Wl, { target := .fn (.func gf) lb, args := #[.func (.yield (w.heap.size + 1)) #[] #[]] }, Wl, gf, #[.func (.yield (w.heap.size + 1)) #[] #[]] ++ lb, Wl,
    run_enterLoop_outer _ _ _ _ _, ?_, ?_, ?_, fun _ => h1, ?_⟩
  · simp only [resolve, hg]; simp [go_sem]
  · intro f' hf'; simp [Target.leads] at hf'; subst hf'; exact hFg
  · simp [invoke, go_sem, eg]
  -- what the loop's records say stays where neither is altered
  have stays : ∀ {A B : World} {row : Option Nat}, A.grownBy B row → (∀ r, row = some r → Wl.heap.size ≤ r ∧ ∃ o : Obj, A.heap[r]? = some o ∧ (o.isWalk = true ∨ ∃ cs ro, o = .cells cs T ro)) → ∀ {b : Nat} {o : Obj}, b < w.heap.size + 2 → A.heap[b]? = some o → B.heap[b]? = some o :=
    fun {A B row} k hr {b o} hb ho => (k.block b (Array.getElem?_eq_some_iff.1 ho).1 (fun e => by have := (hr b e.symm).1; omega)).trans ho
  refine (hseq (w.heap.size + 1) (fun k W => I k W ∧ W.heap[w.heap.size + 1]? = some (.loop (rec0 .ready none)) ∧ W.heap[w.heap.size]? = some (.deferred (some [])))
    (fun W => Ix W ∧ W.heap[w.heap.size + 1]? = some (.loop (rec0 .done (some .ret))) ∧ W.heap[w.heap.size]? = some (.deferred (some []))) Wl hbl ?_ ?_ ⟨hIl, hL, hD⟩).mono ?_
  · rintro k A B row ⟨x1, x2, x3⟩ hgr hr
    refine ⟨hI k A B row x1 hgr (fun r e => ?_), stays hgr hr (by omega) x2, stays hgr hr (by omega) x3⟩
    obtain ⟨y1, o, y2, y3⟩ := hr r e
    exact ⟨by omega, o, y2, y3.imp Obj.not_cells_of_walk id⟩
  · -- a round
    rintro k hk W ⟨x1, x2, x3⟩
    have hlt := (Array.getElem?_eq_some_iff.1 x2).1
    refine ⟨fn, _, assign, body, run_yield (P := P) (args := encs E[k]) x2 (hps _), roundIn_of_wpIn hfn (hassign _ k hk W _ x1 (by omega) fun a' Wa hga hax => ?_)⟩
    have y2 : Wa.heap[w.heap.size + 1]? = some (.loop (rec0 .ready none)) := (hga.block _ hlt (by simp)).trans x2
    have y3 : Wa.heap[w.heap.size]? = some (.deferred (some [])) := (hga.block _ (by omega) (by simp)).trans x3
    have hlta := (Array.getElem?_eq_some_iff.1 y2).1
    refine ⟨_, run_beginRound y2 rfl, ?_⟩
    have z2 : (Wa.putObj (w.heap.size + 1) (.loop { rec0 .ready none with state := .busy })).heap[w.heap.size + 1]? = some (.loop { rec0 .ready none with state := .busy }) := World.putObj_heap_same hlta
    have z3 : (Wa.putObj (w.heap.size + 1) (.loop { rec0 .ready none with state := .busy })).heap[w.heap.size]? = some (.deferred (some [])) := (World.putObj_heap_other (by omega)).trans y3
    have hka := hKt _ (hKg Wl.heap.size W Wa (by omega) hga) (hKb Wl.heap.size Wa (w.heap.size + 1) _ (.loop { rec0 .ready none with state := .busy }) (by omega) y2 rfl)
    refine wpIn_mono (hbody _ k hk a' _ (by omega) (hA k a' Wa _ _ _ hax (by omega) y2 rfl)) ?_
    -- the end of a round, whatever it leaves with
    have ends : ∀ (jump : Option Code) (V : World), KeepsFrom w.heap.size (Wa.putObj (w.heap.size + 1) (.loop { rec0 .ready none with state := .busy })) V →
        V.heap[w.heap.size + 1]? = some (.loop { rec0 .ready none with state := .busy }) ∧
        (Instr.endRound (w.heap.size + 1) jump).run P V = .ok (.bool jump.isNone) (V.putObj (w.heap.size + 1) (.loop (rec0 (if jump.isNone then .ready else .done) jump))) ∧
        (V.putObj (w.heap.size + 1) (.loop (rec0 (if jump.isNone then .ready else .done) jump))).heap[w.heap.size + 1]? = some (.loop (rec0 (if jump.isNone then .ready else .done) jump)) ∧
        (V.putObj (w.heap.size + 1) (.loop (rec0 (if jump.isNone then .ready else .done) jump))).heap[w.heap.size]? = some (.deferred (some [])) := fun jump V kf => by
      have v2 := kf.same _ _ (by omega) z2 rfl
      exact ⟨v2, run_endRound (P := P) jump v2, World.putObj_heap_same (Array.getElem?_eq_some_iff.1 v2).1, (World.putObj_heap_other (by omega)).trans (kf.same _ _ (Nat.le_refl _) z3 rfl)⟩
    rintro e a3 V hp
    cases e <;> first | exact hp.elim | skip
    · obtain ⟨kf, kp, hi⟩ := hp
      obtain ⟨v2, hr, v3, v4⟩ := ends none V kf
      refine ⟨_, _, hr, .inl ⟨rfl, ⟨hI _ V _ (some (w.heap.size + 1)) hi (grownBy_putObj' V _ _) (fun r e => by cases e; exact ⟨by omega, _, v2, .inl rfl⟩), v3, v4⟩, ?_⟩⟩
      rw [hsz] at hka ⊢
      exact hKt _ hka (hKt _ kp (hKb _ V (w.heap.size + 1) _ _ (by omega) v2 rfl))
    · obtain ⟨kf, hx⟩ := hp
      obtain ⟨v2, hr, v3, v4⟩ := ends (some .ret) V kf
      exact ⟨_, _, hr, .inr ⟨rfl, hIx V _ _ _ hx (by omega) v2 rfl, v3, v4⟩⟩
  · -- behind the iterator
    rintro e V ⟨⟨v, rfl⟩, ⟨hi, v2, v3⟩ | ⟨hx, v2, v3⟩⟩
    · exact ⟨none, _, run_endLoop (P := P) v2 (by simp [rec0]), hdone _ _ (Nat.le_refl _) (hI _ V _ (some (w.heap.size + 1)) hi (grownBy_putObj' V _ _) (fun r e => by cases e; exact ⟨by omega, _, v2, .inl rfl⟩)) ((World.putObj_heap_other (by omega)).trans v3)⟩
    · exact ⟨some .ret, _, run_endLoop (P := P) v2 (by simp [rec0]), hstop _ _ (Nat.le_refl _) (hIx V _ _ _ hx (by omega) v2 rfl) ((World.putObj_heap_other (by omega)).trans v3)⟩
end
end Go.Proofs.YtlpjgaeelnlipaaGreat
namespace Go.Proofs
open Go.Shelf
def Tryz.shKeys_ren : Go.Shelf.Ren := ⟨fun | 7 => 28 | 10 => 48 | n => n, fun | 23 => 55 | 26 => 3 | 3 => 4 | 28 => 62 | 0 => 0 | 27 => 61 | 33 => 83 | 4 => 4 | n => n, fun | n => n⟩
theorem Tryz.shKeys : Go.Proofs.SlLaysZI.n7 Tryz.prog Tryz.shKeys_ren := {
  mixed := by kernel_rfl
  f7 := ⟨Tryz.f28.name, by decide, Tryz.func28.trans (congrArg some (by kernel_rfl))⟩
  f10 := ⟨Tryz.f48.name, by decide, Tryz.func48.trans (congrArg some (by kernel_rfl))⟩
  t0 := Tryz.underlying0
  a0 := Tryz.isAgg0
  z0 := Tryz.sizeOf0
  v0 := Tryz.zeroValue0
  t4 := Tryz.underlying4
  a4 := Tryz.isAgg4
  z4 := Tryz.sizeOf4
  v4 := Tryz.zeroValue4
  t23 := Tryz.underlying55
  a23 := Tryz.isAgg55
  z23 := Tryz.sizeOf55
  v23 := Tryz.zeroValue55
  t26 := Tryz.underlying3
  a26 := Tryz.isAgg3
  z26 := Tryz.sizeOf3
  v26 := Tryz.zeroValue3
  t27 := Tryz.underlying61
  a27 := Tryz.isAgg61
  z27 := Tryz.sizeOf61
  v27 := Tryz.zeroValue61
  t28 := Tryz.underlying62
  a28 := Tryz.isAgg62
  z28 := Tryz.sizeOf62
  v28 := Tryz.zeroValue62
  t33 := Tryz.underlying83
  a33 := Tryz.isAgg83
  z33 := Tryz.sizeOf83
  v33 := Tryz.zeroValue83 }
def Tryz.shSorted_ren : Go.Shelf.Ren := ⟨fun | 6 => 27 | 8 => 46 | 9 => 47 | 11 => 67 | 13 => 69 | 12 => 68 | 23 => 90 | 24 => 91 | 14 => 81 | 15 => 82 | 16 => 83 | 17 => 84 | 18 => 85 | 19 => 86 | 20 => 87 | 21 => 88 | 22 => 89 | 25 => 99 | 26 => 100 | 27 => 101 | 28 => 102 | 29 => 103 | 30 => 104 | 31 => 111 | n => n, fun | 26 => 3 | 28 => 62 | 24 => 22 | 0 => 0 | 3 => 3 | 37 => 108 | 48 => 130 | 50 => 132 | 4 => 4 | 40 => 123 | 39 => 122 | 45 => 90 | 5 => 5 | 9 => 9 | 51 => 136 | 55 => 140 | 57 => 146 | 58 => 147 | 33 => 83 | n => n, fun | n => n⟩
theorem Tryz.shSorted : Go.Proofs.SlLaysZI.n6 Tryz.prog Tryz.shSorted_ren := {
  mixed := by kernel_rfl
  f6 := ⟨Tryz.f27.name, by decide, Tryz.func27.trans (congrArg some (by kernel_rfl))⟩
  f8 := ⟨Tryz.f46.name, by decide, Tryz.func46.trans (congrArg some (by kernel_rfl))⟩
  f11 := ⟨Tryz.f67.name, by decide, Tryz.func67.trans (congrArg some (by kernel_rfl))⟩
  t0 := Tryz.underlying0
  a0 := Tryz.isAgg0
  z0 := Tryz.sizeOf0
  v0 := Tryz.zeroValue0
  t24 := Tryz.underlying22
  a24 := Tryz.isAgg22
  z24 := Tryz.sizeOf22
  v24 := Tryz.zeroValue22
  t26 := Tryz.underlying3
  a26 := Tryz.isAgg3
  z26 := Tryz.sizeOf3
  v26 := Tryz.zeroValue3
  t28 := Tryz.underlying62
  a28 := Tryz.isAgg62
  z28 := Tryz.sizeOf62
  v28 := Tryz.zeroValue62
  i26 := by kernel_rfl }
def Tryz.shSort_ren : Go.Shelf.Ren := ⟨fun | 5 => 47 | 8 => 69 | 7 => 68 | 19 => 90 | 20 => 91 | 10 => 81 | 11 => 82 | 12 => 83 | 13 => 84 | 14 => 85 | 15 => 86 | 16 => 87 | 17 => 88 | 18 => 89 | 30 => 99 | 31 => 100 | 32 => 101 | 33 => 102 | 34 => 103 | 35 => 104 | 40 => 111 | n => n, fun | 23 => 22 | 25 => 3 | 3 => 3 | 32 => 108 | 22 => 22 | 0 => 0 | 44 => 130 | 46 => 132 | 4 => 4 | 36 => 123 | 35 => 122 | 41 => 90 | 5 => 5 | 9 => 9 | 53 => 136 | 57 => 140 | 63 => 146 | 64 => 147 | n => n, fun | n => n⟩
theorem Tryz.shSort : Go.Proofs.SlLaysM.n5 Tryz.prog Tryz.shSort_ren := {
  mixed := by kernel_rfl
  f5 := ⟨Tryz.f47.name, by decide, Tryz.func47.trans (congrArg some (by kernel_rfl))⟩
  f7 := ⟨Tryz.f68.name, by decide, Tryz.func68.trans (congrArg some (by kernel_rfl))⟩
  f8 := Tryz.func69.trans (congrArg some (by kernel_rfl))
  f10 := ⟨Tryz.f81.name, by decide, Tryz.func81.trans (congrArg some (by kernel_rfl))⟩
  f11 := ⟨Tryz.f82.name, by decide, Tryz.func82.trans (congrArg some (by kernel_rfl))⟩
  f12 := ⟨Tryz.f83.name, by decide, Tryz.func83.trans (congrArg some (by kernel_rfl))⟩
  f13 := ⟨Tryz.f84.name, by decide, Tryz.func84.trans (congrArg some (by kernel_rfl))⟩
  f14 := ⟨Tryz.f85.name, by decide, Tryz.func85.trans (congrArg some (by kernel_rfl))⟩
  f15 := ⟨Tryz.f86.name, by decide, Tryz.func86.trans (congrArg some (by kernel_rfl))⟩
  f16 := ⟨Tryz.f87.name, by decide, Tryz.func87.trans (congrArg some (by kernel_rfl))⟩
  f17 := ⟨Tryz.f88.name, by decide, Tryz.func88.trans (congrArg some (by kernel_rfl))⟩
  f18 := ⟨Tryz.f89.name, by decide, Tryz.func89.trans (congrArg some (by kernel_rfl))⟩
  f19 := Tryz.func90.trans (congrArg some (by kernel_rfl))
  f20 := Tryz.func91.trans (congrArg some (by kernel_rfl))
  f30 := ⟨Tryz.f99.name, by decide, Tryz.func99.trans (congrArg some (by kernel_rfl))⟩
  f31 := Tryz.func100.trans (congrArg some (by kernel_rfl))
  f32 := Tryz.func101.trans (congrArg some (by kernel_rfl))
  f33 := ⟨Tryz.f102.name, by decide, Tryz.func102.trans (congrArg some (by kernel_rfl))⟩
  f34 := ⟨Tryz.f103.name, by decide, Tryz.func103.trans (congrArg some (by kernel_rfl))⟩
  f35 := ⟨Tryz.f104.name, by decide, Tryz.func104.trans (congrArg some (by kernel_rfl))⟩
  f40 := ⟨Tryz.f111.name, by decide, Tryz.func111.trans (congrArg some (by kernel_rfl))⟩
  t0 := Tryz.underlying0
  a0 := Tryz.isAgg0
  z0 := Tryz.sizeOf0
  v0 := Tryz.zeroValue0
  t3 := Tryz.underlying3
  a3 := Tryz.isAgg3
  z3 := Tryz.sizeOf3
  v3 := Tryz.zeroValue3
  t4 := Tryz.underlying4
  a4 := Tryz.isAgg4
  z4 := Tryz.sizeOf4
  v4 := Tryz.zeroValue4
  t5 := Tryz.underlying5
  a5 := Tryz.isAgg5
  z5 := Tryz.sizeOf5
  v5 := Tryz.zeroValue5
  t9 := Tryz.underlying9
  a9 := Tryz.isAgg9
  z9 := Tryz.sizeOf9
  v9 := Tryz.zeroValue9
  t22 := Tryz.underlying22
  a22 := Tryz.isAgg22
  z22 := Tryz.sizeOf22
  v22 := Tryz.zeroValue22
  t23 := Tryz.underlying22
  a23 := Tryz.isAgg22
  z23 := Tryz.sizeOf22
  v23 := Tryz.zeroValue22
  t25 := Tryz.underlying3
  a25 := Tryz.isAgg3
  z25 := Tryz.sizeOf3
  v25 := Tryz.zeroValue3
  t32 := Tryz.underlying108
  a32 := Tryz.isAgg108
  z32 := Tryz.sizeOf108
  v32 := Tryz.zeroValue108
  t35 := Tryz.underlying122
  a35 := Tryz.isAgg122
  z35 := Tryz.sizeOf122
  v35 := Tryz.zeroValue122
  t36 := Tryz.underlying123
  a36 := Tryz.isAgg123
  z36 := Tryz.sizeOf123
  v36 := Tryz.zeroValue123
  t41 := Tryz.underlying90
  a41 := Tryz.isAgg90
  z41 := Tryz.sizeOf90
  v41 := Tryz.zeroValue90
  t44 := Tryz.underlying130
  a44 := Tryz.isAgg130
  z44 := Tryz.sizeOf130
  v44 := Tryz.zeroValue130
  t46 := Tryz.underlying132
  a46 := Tryz.isAgg132
  z46 := Tryz.sizeOf132
  v46 := Tryz.zeroValue132
  t53 := Tryz.underlying136
  a53 := Tryz.isAgg136
  z53 := Tryz.sizeOf136
  v53 := Tryz.zeroValue136
  t57 := Tryz.underlying140
  a57 := Tryz.isAgg140
  z57 := Tryz.sizeOf140
  v57 := Tryz.zeroValue140
  t63 := Tryz.underlying146
  a63 := Tryz.isAgg146
  z63 := Tryz.sizeOf146
  v63 := Tryz.zeroValue146
  t64 := Tryz.underlying147
  a64 := Tryz.isAgg147
  z64 := Tryz.sizeOf147
  v64 := Tryz.zeroValue147 }
end Go.Proofs
namespace Go.Proofs.YtlpjgaeelnlipaaGreat
open Go.RowKit Go.Maps Go.Sort Go.Shelf
set_option maxRecDepth 100000

/-- Block b is a set of at most n numbers: those of f. -/
def MapT (w : World) (b n : Nat) (f : Int → Bool) : Prop :=
  ∃ D : DataW Unit, w.ownsMap Tryz.prog 3 (plainElem Tryz.prog 4) b n D ∧ Maps.Tidy D ∧ (∀ i : Int, D.atKey (.int .i64 i) (.lit (.bool false)) = .lit (.bool (f i))) ∧ ∀ i : Int, Maps.has D (.int .i64 i) = f i
theorem MapT.i {w : World} {b n : Nat} {f : Int → Bool} (h : MapT w b n f) : MapI w b n f := by
  obtain ⟨D, h1, h2, h3, _⟩ := h
  exact ⟨D, h1, h2.isMap, h3⟩
theorem MapT.kept {w w' : World} {b n : Nat} {f : Int → Bool} {row : Option Nat} (h : MapT w b n f) (hg : w.grownBy w' row) (hne : some b ≠ row) : MapT w' b n f := by
  obtain ⟨D, h1, h2⟩ := h
  exact ⟨D, h1.kept hg hne, h2⟩
theorem MapT.lt {w : World} {b n : Nat} {f : Int → Bool} (h : MapT w b n f) : b < w.heap.size := by
  obtain ⟨D, h1, _⟩ := h
  exact h1.lt
theorem MapT.heap {w w' : World} {b n : Nat} {f : Int → Bool} (h : MapT w b n f) (e : w'.heap[b]? = w.heap[b]?) : MapT w' b n f := by
  obtain ⟨D, ⟨es, cl, h1, h2⟩, h3⟩ := h
  exact ⟨D, ⟨es, cl, e.trans h1, h2⟩, h3⟩
theorem MapT.below {w w' : World} {B b n : Nat} {f : Int → Bool} (h : MapT w b n f) (hb : Below B w w') (hB : b < B) : MapT w' b n f := h.heap (hb.block b hB)
theorem MapT.mono {w : World} {b n n' : Nat} {f : Int → Bool} (h : MapT w b n f) (hn : n ≤ n') : MapT w b n' f := by
  obtain ⟨D, h1, h2⟩ := h
  exact ⟨D, h1.mono hn, h2⟩
theorem MapT.made (w : World) : MapT (w.alloc (.map #[] 0)) w.heap.size 0 (fun _ => false) :=
  ⟨.map [], World.ownsMap_made w _ _ _, Maps.tidy_empty, fun _ => rfl, fun _ => rfl⟩
theorem mapT_put {D : DataW Unit} {f : Int → Bool} (hm : Maps.Tidy D) (h : ∀ i : Int, D.atKey (.int .i64 i) (.lit (.bool false)) = .lit (.bool (f i))) (hh : ∀ i : Int, Maps.has D (.int .i64 i) = f i) (x : Int) :
    Maps.Tidy (D.put (.int .i64 x) (.lit (.bool true))) ∧ (∀ i : Int, (D.put (.int .i64 x) (.lit (.bool true))).atKey (.int .i64 i) (.lit (.bool false)) = .lit (.bool (f i || decide (i = x)))) ∧ ∀ i : Int, Maps.has (D.put (.int .i64 x) (.lit (.bool true))) (.int .i64 i) = (f i || decide (i = x)) := by
  refine ⟨hm.put (by trivial) _, (mapI_put hm.isMap h x).2, fun i => ?_⟩
  by_cases e : i = x
  · subst e
    rw [Maps.has_put_same hm.isMap (by trivial)]; simp
  · rw [Maps.has_put_other (by intro c; injection c with _ c; exact e c), hh i]
    simp [e]
section
variable (w : World) {ops : Array Oper} {rest : List Oper} {o : Oper} {a : Act} {Q : Exit → Act → World → Prop}
theorem at_putT (hg : o.guard = none) (m x v : Operand) (hop : o.op = Op.mapUpdate 55 m x v) (b n : Nat) (f : Int → Bool) (hm : a.eval m = .map (some b)) (hown : MapT w b n f) (hn : n < maxLen)
    (i : Int) (hx : a.eval x = .int .i64 i) (hv : a.eval v = .bool true) (hi : (Lit.int .i64 i).wf = true)
    (hK : ∀ w', MapT w' b (n + 1) (fun j => f j || decide (j = i)) → w.grownBy w' (some b) → wpList Tryz.prog ops Q rest (a.put o.dst undef) w') : wpList Tryz.prog ops Q (o :: rest) a w := by
  obtain ⟨D, h1, h2, h3, h4⟩ := hown
  have h5 := mapT_put h2 h3 h4 i
  exact wpList_mapUpdate_own w hg m x v _ hop _ _ (Maps.int_keyed Tryz.underlying3) Tryz.underlying55 _ b n D hm h1 hn _ _ _ hx hv (mapI_key hi) _ [] (plainElem_bool Tryz.underlying4 true) (fun w' h6 h7 => hK w' ⟨_, h6, h5⟩ h7)
end
theorem sortI_in (m : Nat) : AnyZI.SortsIn Tryz.prog Tryz.shSorted_ren Fence.wide m :=
  ⟨fun b o c ss W h1 h2 h3 => callsIn_wide.2 (AnyM.slices_Sort_int Tryz.shSort b o c ss W h1 h2 h3), fun p c W => callsIn_wide.2 (AnyM.slices_Sort_int_none Tryz.shSort p c W)⟩
/-- maps.Keys: a function value over one new block that holds the map. -/
theorem keysI_call (mb : Option Nat) (W : World) :
    Calls Tryz.prog 28 #[.map mb] W fun e w' => e = .returned (.func (.func 48) #[] #[.pointer (some ⟨W.heap.size, 0, none⟩)]) ∧ w' = W.alloc (.cells #[.map mb] 55) :=
  callsIn_wide.1 (AnyZI.keys_in Tryz.shKeys Fence.wide 5 trivial rfl mb W)
/-- A list of numbers that rise: those of f. -/
def RisF (f : Int → Bool) (ks : List Int) : Prop := ks.Pairwise (· < ·) ∧ ∀ x, x ∈ ks ↔ f x = true
theorem ris_of {ss : List Int} {f : Int → Bool} (hn : ss.Nodup) (hm : ∀ x, x ∈ ss ↔ f x = true) : RisF f (ss.mergeSort fun x y => decide (x ≤ y)) := by
  have hp := List.mergeSort_perm ss (fun x y => decide (x ≤ y))
  refine ⟨?_, fun x => (hp.mem_iff).trans (hm x)⟩
  have h1 := List.pairwise_mergeSort (le := fun x y : Int => decide (x ≤ y)) (fun a b c h1 h2 => by simp only [decide_eq_true_eq] at *; omega) (fun a b => by simp only [Bool.or_eq_true, decide_eq_true_eq]; omega) ss
  have h2 : (ss.mergeSort fun x y => decide (x ≤ y)).Nodup := hp.nodup_iff.2 hn
  exact (h1.and h2).imp fun {a b} h => by have := h.1; simp only [decide_eq_true_eq] at this; have := h.2; omega
theorem ris_one {f : Int → Bool} : ∀ {a b : List Int}, RisF f a → RisF f b → a = b := fun {a b} ha hb =>
  List.Perm.eq_of_pairwise (le := fun x y : Int => x < y) (fun x y _ _ h1 h2 => by omega) ha.1 hb.1 ((List.perm_ext_iff_of_nodup (ha.1.imp fun h => by omega) (hb.1.imp fun h => by omega)).2 fun x => (ha.2 x).trans (hb.2 x).symm)
set_option maxHeartbeats 1000000 in
/-- slices.Sorted at what maps.Keys handed back: the set's numbers, rising, in new memory. -/
theorem sortedI_call {b n : Nat} {f : Int → Bool} (w : World) (hown : MapT w b n f) (hn : n ≤ 1000000) :
    Calls Tryz.prog 27 #[.func (.func 48) #[] #[.pointer (some ⟨w.heap.size, 0, none⟩)]] (w.alloc (.cells #[.map (some b)] 55)) fun e w' =>
      ∃ (v : Value) (ks : List Int), e = .returned v ∧ RisF f ks ∧ ks.length ≤ n ∧ OwnI (w.heap.size + 1) w' v ks ∧ Below (w.heap.size + 1) (w.alloc (.cells #[.map (some b)] 55)) w' := by
  obtain ⟨D, h1, h2, h3, h4⟩ := hown
  have hbl := h1.lt
  have hsz := h1.size_le
  have h5 : (w.alloc (.cells #[.map (some b)] 55)).ownsMap Tryz.prog 3 (plainElem Tryz.prog 4) b n D := by
    obtain ⟨es, clock, hb, Ft, hs, hD⟩ := h1
    exact ⟨es, clock, (Below.heap_alloc _ _ b hbl).trans hb, Ft, hs, hD⟩
  have hseq : SeqGives Fence.wide 2 Tryz.prog 48 #[.pointer (some ⟨w.heap.size, 0, none⟩)] encZ (fun ss => ss.Perm (intKeys D) ∧ ∀ x, x ∈ ss ↔ Maps.has D (.int .i64 x) = true) (Maps.size D) (w.alloc (.cells #[.map (some b)] 55)) :=
    (AnyZI.keys_stops (R := plainElem Tryz.prog 4) (ρ := Tryz.shKeys_ren) { Tryz.shKeys with } Fence.wide _ trivial rfl (by omega) w.heap.size b n D _ (by simp) (by simp) h5).gives
  have hc := callsIn_wide.1 (AnyZI.sorted_in Tryz.shSorted Fence.wide 5 trivial trivial trivial trivial rfl (by omega) (sortI_in _) (enters_of Tryz.func47 (by kernel_rfl) rfl) 48 _ trivial (enters_of Tryz.func48 (by kernel_rfl) rfl) _ _ (by unfold maxLen; omega) (by omega) _ hseq)
  refine hc.mono ?_
  rintro e w' ⟨v, ss, rfl, ⟨hp, hm⟩, hrow, -, hb⟩
  have hnd : ss.Nodup := by
    refine hp.nodup_iff.2 ?_
    obtain ⟨es, rfl, hpw⟩ := h2
    obtain ⟨es', hD, hko⟩ := h1.keysOf
    obtain rfl : es = es' := by simpa using hD
    show (es.map fun p => _root_.Go.intOf p.1).Nodup
    refine List.pairwise_map.2 (hpw.imp_of_mem fun {p q} hp' hq' hne e => hne ?_)
    obtain ⟨v1, hv1⟩ := hko p hp'
    obtain ⟨v2, hv2⟩ := hko q hq'
    obtain ⟨a, -, ha, -⟩ := Maps.keyOf_i64 Tryz.underlying3 hv1
    obtain ⟨b', -, hb', -⟩ := Maps.keyOf_i64 Tryz.underlying3 hv2
    rw [ha, hb'] at e ⊢
    exact congrArg _ e
  have hlen : ss.length ≤ n := by
    rw [hp.length_eq]
    obtain ⟨es, rfl, -⟩ := h2
    exact Nat.le_trans (Nat.le_of_eq (List.length_map _)) hsz
  have hr := ris_of hnd (fun x => (hm x).trans (by rw [h4 x]))
  rw [World.size_alloc] at hrow hb
  refine ⟨v, ss.mergeSort (fun x y => decide (x ≤ y)), rfl, hr, by rw [List.length_mergeSort]; exact hlen, ?_, hb⟩
  have e1 : (ss.mergeSort fun x y => decide (x ≤ y)).flatMap nuC = (ss.mergeSort fun x y => decide (x ≤ y)).map encZ := by
    rw [List.flatMap_def]
    generalize (ss.mergeSort fun x y => decide (x ≤ y)) = q
    induction q with
    | nil => rfl
    | cons a r ih => rw [List.map_cons, List.flatten_cons, ih]; rfl
  show w'.ownsRow (w.heap.size + 1) 3 1 v (ss.mergeSort fun x y => decide (x ≤ y)).length ((ss.mergeSort fun x y => decide (x ≤ y)).flatMap nuC)
  rw [e1, List.length_mergeSort]
  exact hrow
end Go.Proofs.YtlpjgaeelnlipaaGreat
namespace Go.Proofs.YtlpjgaeelnlipaaGreat
open Go.RowKit Go.Shelf
attribute [local go_sem] Oper.semAt_some
open CodM (St Pg)
open SlM

theorem keyB_snoc (g : List Int) (m : Nat) (k : Nat) (hk : k < g.length) : keyB (g.take (k + 1)) m = fun j => keyB (g.take k) m j || (decide (j = g[k]) && (decide (0 ≤ g[k]) && decide (g[k] < (m : Int)))) := by
  funext j
  unfold keyB
  rw [has_take g k hk]
  by_cases e : j = g[k]
  · subst e; simp [Bool.or_and_distrib_right]; try (intro a b; exact .inr ⟨a, b⟩)
  · have : (g[k] == j) = false := by simpa using fun c => e c.symm
    simp [this, e]
set_option maxRecDepth 100000 in
set_option maxHeartbeats 2000000 in
theorem keys_in (F : Fence) (n : Nat) (h62 : F.fn 73) (hro : F.round = none) {B : Nat} {v : Value} {g : List Int} (m : Nat) (w : World) (hv : Ints B w v g) (hBB : B ≤ w.heap.size) (hm : m ≤ 1000000000000) (hl : g.length ≤ 1000000) :
    CallsIn F n Tryz.prog 73 #[v, .int .i64 (m : Int)] w fun e w' => e = .returned (.map (some w.heap.size)) ∧ MapI w' w.heap.size g.length (keyB g m) ∧ Below w.heap.size w w' := by
  have hmm := @run_makeMap Tryz.prog
  have HKS := Lib.hid (fun k hk => keyB_snoc g m k hk)
  obtain ⟨A, c, rfl, hc1, hc2, hc3⟩ := hv
  unfold maxLen at hc2
  refine callsIn_of_wp Tryz.func73 rfl h62 ?_ hro
  simp only [Tryz.ntmps73, List.size_toArray, List.length_cons, List.length_nil, Nat.reduceAdd, Nat.reduceSub, Array.replicate_succ, Array.replicate_zero, List.push_toArray, List.append_toArray, List.nil_append, List.cons_append]
  gi_wp2
  gi_loopw [11] (fun i wr => ∃ k : Nat, k ≤ g.length ∧ i = .int .i64 k ∧ MapI wr w.heap.size k (keyB (g.take k) m) ∧ Below w.heap.size w wr) (fun i _ => g.length - (intOf i).toNat)
  case atStart =>
    refine ⟨0, Nat.zero_le _, rfl, ?_, (Below.refl _ _).alloc (Nat.le_refl _) _⟩
    have : keyB (g.take 0) m = fun _ => false := by funext j; simp [keyB, has]
    rw [this]; exact MapI.made w
  case round =>
    obtain ⟨k, hk, rfl, hM, hB⟩ := hrel
    by_cases hlt : k < g.length
    · obtain ⟨b1, f1, rfl, hb1, hcl⟩ := hc3 (by omega)
      have hcc : wr.cell? ⟨b1, f1 + k, none⟩ = some (.int .i64 g[k]) := (hB.cell (p := ⟨b1, f1 + k, none⟩) (show b1 < _ by omega)).trans (hcl k hlt)
      have hks := Lib.hid (HKS.out k hlt)
      generalize g[k] = x at *
      by_cases h0 : 0 ≤ x
      · by_cases h1 : x < (m : Int)
        · have hwx : (Lit.int .i64 x).wf = true := WalkArith.wf_i64 (by omega)
          gi_wp2_with (gi_at_mapUpdate; refine in_putI _ rfl _ _ _ rfl w.heap.size k _ rfl hM (by unfold maxLen; omega) x rfl rfl hwx ?_; intro w1 hM1 hg1)
          go_roundw
          case rel =>
            refine ⟨k + 1, by omega, by go_num, ?_, hB.grown hg1 hB.size (fun r e => by cases e; exact Nat.le_refl _)⟩
            rw [hks.out]; simpa [h0, h1] using hM1
          case measure => simp [intOf]; omega
        · gi_wp2
          go_roundw
          case rel =>
            refine ⟨k + 1, by omega, by go_num, ?_, hB⟩
            rw [hks.out]; simpa [h0, h1] using hM.mono (Nat.le_succ k)
          case measure => simp [intOf]; omega
      · gi_wp2
        go_roundw
        case rel =>
          refine ⟨k + 1, by omega, by go_num, ?_, hB⟩
          rw [hks.out]; simpa [h0] using hM.mono (Nat.le_succ k)
        case measure => simp [intOf]; omega
    · obtain rfl : g.length = k := by omega
      rw [List.take_length] at hM
      gi_wp2
      go_ret
      exact ⟨rfl, hM, hB⟩
/-- Which places are chosen by these slots. -/
def chI (g : List Int) (M : Nat) (pre : List Sq) (i j : Int) : Bool := pre.any fun x => (decide (i = (x.1.t : Int)) && decide (j = (x.1.k : Int))) && keyB g M (x.1.n : Int)
theorem chI_snoc (g : List Int) (M : Nat) (pre : List Sq) (x : Sq) : chI g M (pre ++ [x]) = fun i j => chI g M pre i j || ((decide (i = (x.1.t : Int)) && decide (j = (x.1.k : Int))) && keyB g M (x.1.n : Int)) := by
  funext i j; unfold chI; rw [List.any_append]; simp
theorem chI_yes {g : List Int} {M : Nat} {pre : List Sq} {x : Sq} (h : keyB g M (x.1.n : Int) = true) : (fun i j => chI g M pre i j || (decide (i = (x.1.t : Int)) && decide (j = (x.1.k : Int)))) = chI g M (pre ++ [x]) := by
  rw [chI_snoc, h]; simp
theorem chI_no {g : List Int} {M : Nat} {pre : List Sq} {x : Sq} (h : keyB g M (x.1.n : Int) = false) : chI g M pre = chI g M (pre ++ [x]) := by
  rw [chI_snoc, h]; simp
theorem chI_nil (g : List Int) (M : Nat) : chI g M [] = fun _ _ => false := rfl
theorem chI_end {A : Type} (p : A → Bool) (ths : List (List A)) (g : List Int) {ys : List Sq} (hys : ys.map Subtype.val = pls p ths) {t k : Nat} (ht : t < ths.length) (hk : k < ths[t].length) : chI g (many p ths) ys (t : Int) (k : Int) = ch p ths g t k := by
  rw [← chP_end p g ths ht hk, ← hys, Bool.eq_iff_iff]
  unfold chI chP
  rw [List.any_eq_true, List.any_eq_true]
  constructor
  · rintro ⟨x, hx, h⟩
    refine ⟨x.1, List.mem_map_of_mem hx, ?_⟩
    simp only [Bool.and_eq_true, decide_eq_true_eq] at h ⊢
    obtain ⟨⟨e1, e2⟩, h3⟩ := h
    refine ⟨⟨by omega, by omega⟩, ?_⟩
    unfold keyB at h3
    rw [Bool.and_eq_true] at h3; exact h3.1
  · rintro ⟨y, hy, h⟩
    obtain ⟨x, hx, rfl⟩ := List.mem_map.1 hy
    refine ⟨x, hx, ?_⟩
    simp only [Bool.and_eq_true, decide_eq_true_eq] at h ⊢
    obtain ⟨⟨e1, e2⟩, h3⟩ := h
    refine ⟨⟨by omega, by omega⟩, ?_⟩
    rw [hys] at hy
    obtain ⟨u, j, hu, hj, hs, e⟩ := (mem_pls p ths x.1).1 hy
    rw [SlM.getD_at hu] at hj
    have hlt := sl_lt p ths hu hj (by rw [← isS_at p ths hu hj]; exact hs)
    unfold keyB
    rw [h3, e]
    simp; omega
end Go.Proofs.YtlpjgaeelnlipaaGreat
namespace Go.Proofs.YtlpjgaeelnlipaaGreat
open Go.RowKit
open WordM (L)
open VM
open CodM (St Pg hasS cnt atI lineI lnP)

end Go.Proofs.YtlpjgaeelnlipaaGreat
