/-
  code.maker, each line's steps, joined: the steps of a thread.
  PLAIN MATHEMATICS OF LAYER 8: where fences may be put.
  MORE MATHEMATICS OF LAYER 8: slots and steps tell one another; rows without slots; where jumps land.
  ROWS OF ROWS of the call's own, each row in a block of its own; append as one step of a drawn region, with the word on where the new row lies. Of no function of the program.
  WHAT A ROUND OF 'more[i] = append(more[i], y)' HOLDS: a row of rows, each in a block of its own, a box of five cells beside them. Of no function of the program.
  MAPS of bools that the program makes, keyed by numbers, and by places: what they say of each key; the look-up of a bool at the operation, within a fence and without.
  ROWS OF LINES OF THE CALL's OWN: the cells of lines, one behind the other, and what they read as.
-/
import Derived.Test.YtaelfjphgdlbcaaM04
import Derived.Test.YtaelfjphgdlbcaaM02
import Derived.Maps.AppendAt
import Derived.RangeFuncBox
import Derived.Maps.OwnIn
import Derived.Maps.OwnOps
import Derived.Maps.Views
import Derived.DeepKeys4
import Derived.Test.YtaelfjphgdlbcaaM01
namespace Go.Proofs.Ytaelfjphgdlbcaa
open Go.RowKit
set_option linter.unusedVariables false
set_option linter.unusedSimpArgs false
open WordM (L)
open VM
open CodM (St Pg hasS stp thrS)

theorem own_apart {W : World} {b1 b2 s1 s2 n m : Nat} {T1 T2 : TypeId} {u v : Value} {xs ys : List Value} (hT : T1 ≠ T2) (h1 : W.ownsRow b1 T1 s1 u n xs) (h2 : W.ownsRow b2 T2 s2 v m ys) : u.ownBlock = none ∨ u.ownBlock ≠ v.ownBlock := by
  rcases h1.2 with ⟨rfl, _⟩ | ⟨g, cap, cur, rfl, hb, hg, _⟩
  · exact .inl rfl
  rcases h2.2 with ⟨rfl, _⟩ | ⟨g2, cap2, cur2, rfl, hb2, hg2, _⟩
  · right; simp [Value.ownBlock]
  right
  intro e
  have e : g = g2 := by simpa [Value.ownBlock] using e
  subst e
  rw [hg] at hg2
  injection hg2 with hg2
  injection hg2 with _ h _
  exact hT h
theorem own_grown {W W' : World} {b1 b2 s1 s2 n m : Nat} {T1 T2 : TypeId} {u v : Value} {xs ys : List Value} (hT : T1 ≠ T2) (h1 : W.ownsRow b1 T1 s1 u n xs) (h2 : W.ownsRow b2 T2 s2 v m ys) (hg : W.grownBy W' v.ownBlock) : W'.ownsRow b1 T1 s1 u n xs :=
  h1.kept hg (own_apart hT h1 h2)
/-- Each of the values is a row of the call's own, of these steps. -/
def StsAll (W : World) (base : Nat) (vs : List Value) (tss : List (List St)) : Prop :=
  vs.length = tss.length ∧ ∀ j (hj : j < tss.length), ∃ u, vs[j]? = some u ∧ W.ownsRow base 53 5 u tss[j].length (stsCs tss[j])
theorem StsAll.below {W W' : World} {base : Nat} {vs : List Value} {tss : List (List St)} (h : StsAll W base vs tss) (hb : Below W.heap.size W W') : StsAll W' base vs tss := by
  refine ⟨h.1, fun j hj => ?_⟩
  obtain ⟨u, h1, h2⟩ := h.2 j hj
  exact ⟨u, h1, own_below h2 hb⟩
theorem StsAll.grown {W W' : World} {base b n : Nat} {T : TypeId} {v : Value} {vs xs : List Value} {tss : List (List St)} (h : StsAll W base vs tss) (hT : 53 ≠ T) (ho : W.ownsRow b T 1 v n xs) (hg : W.grownBy W' v.ownBlock) : StsAll W' base vs tss := by
  refine ⟨h.1, fun j hj => ?_⟩
  obtain ⟨u, h1, h2⟩ := h.2 j hj
  exact ⟨u, h1, own_grown hT h2 ho hg⟩
theorem StsAll.snoc {W : World} {base : Nat} {vs : List Value} {tss : List (List St)} {u : Value} {ss : List St} (h : StsAll W base vs tss) (ho : W.ownsRow base 53 5 u ss.length (stsCs ss)) : StsAll W base (vs ++ [u]) (tss ++ [ss]) := by
  refine ⟨by rw [List.length_append, List.length_append, h.1]; rfl, fun j hj => ?_⟩
  by_cases e : j < tss.length
  · obtain ⟨u', h1, h2⟩ := h.2 j e
    rw [List.getElem_append_left e]
    exact ⟨u', by rw [List.getElem?_append_left (by rw [h.1]; exact e)]; exact h1, h2⟩
  · have hj' : j = tss.length := by rw [List.length_append] at hj; simp at hj; omega
    subst hj'
    rw [List.getElem_append_right (Nat.le_refl _)]
    refine ⟨u, ?_, by simpa using ho⟩
    rw [List.getElem?_append_right (by rw [h.1]; exact Nat.le_refl _), h.1, Nat.sub_self]; rfl
theorem info_steps : (Try.prog.info? 50).map (fun i => (i.zero, i.size, i.bytes)) = some (some (.slice none 0 0), 1, 24) := by kernel_rfl
theorem info_step : (Try.prog.info? 53).map (fun i => (i.size, i.bytes)) = some (5, 40) := by kernel_rfl
def ElRel (ls : List OpsM.Ln) (ms : List (List St)) (w : World) (v i : Value) (wr : World) : Prop :=
  ∃ (k : Nat) (vs : List Value), k ≤ ls.length ∧ i = .int .i64 k ∧ wr.ownsRow w.heap.size 50 1 v k vs ∧ StsAll wr w.heap.size vs (ms.take k) ∧ Below w.heap.size w wr
end Go.Proofs.Ytaelfjphgdlbcaa
namespace Go.Proofs.Ytaelfjphgdlbcaa.SlM
open CodM (St Pg hasS)
open OpsM (Ln)
open VM (Fl)
set_option linter.unusedVariables false
set_option linter.unusedSimpArgs false

instance : DecidableEq Ln := fun a b => decidable_of_iff (a.op = b.op ∧ a.reg = b.reg ∧ a.loc = b.loc ∧ a.label = b.label ∧ a.n = b.n) (by cases a; cases b; simp)
instance : DecidableEq St := fun a b => decidable_of_iff (a.op = b.op ∧ a.reg = b.reg ∧ a.loc = b.loc ∧ a.n = b.n ∧ a.to = b.to) (by cases a; cases b; simp)
/-- Is a number in a row? -/
def has (g : List Int) (n : Int) : Bool := g.any (fun x => x == n)
theorem has_take (g : List Int) (k : Nat) (h : k < g.length) (n : Int) : has (g.take (k + 1)) n = (has (g.take k) n || g[k] == n) := by
  unfold has; rw [List.take_succ_eq_append_getElem h, List.any_append]; simp
theorem has_mem (g : List Int) (n : Int) : has g n = true ↔ n ∈ g := by unfold has; simp
theorem has_not {g : List Int} {n : Int} (h : ∀ k (hk : k < g.length), ¬ g[k] = n) : has g n = false := by
  rw [← Bool.not_eq_true, has_mem]
  intro c
  obtain ⟨k, hk, e⟩ := List.mem_iff_getElem.1 c
  exact h k hk e
/-- The numbers of a row that are from 0 to below many. -/
def keyB (g : List Int) (many : Nat) (n : Int) : Bool := has g n && (decide (0 ≤ n) && decide (n < many))
section
variable {A : Type} (p : A → Bool)
/-- How many of these are steps. -/
def pc (l : List A) : Nat := (l.filter p).length
theorem pc_snoc (l : List A) (x : A) : pc p (l ++ [x]) = pc p l + if p x then 1 else 0 := by
  unfold pc
  rw [List.filter_append, List.length_append]
  cases c : p x
  · rw [List.filter_cons_of_neg (by simp [c])]; rfl
  · rw [List.filter_cons_of_pos c]; rfl
theorem pc_take (l : List A) (k : Nat) (h : k < l.length) : pc p (l.take (k + 1)) = pc p (l.take k) + if p l[k] then 1 else 0 := by
  rw [List.take_succ_eq_append_getElem h, pc_snoc]
theorem pc_cons (x : A) (l : List A) : pc p (x :: l) = (if p x then 1 else 0) + pc p l := by
  unfold pc
  cases c : p x
  · rw [List.filter_cons_of_neg (by simp [c])]; simp
  · rw [List.filter_cons_of_pos c, List.length_cons]; simp; omega
theorem pc_len (l : List A) : pc p l ≤ l.length := List.length_filter_le _ _
theorem pc_le (l : List A) (k : Nat) : pc p (l.take k) ≤ k := Nat.le_trans (pc_len p _) (List.length_take_le _ _)
theorem pc_mono (l : List A) {i k : Nat} (h : i ≤ k) : pc p (l.take i) ≤ pc p (l.take k) := by
  have : l.take i = (l.take k).take i := by rw [List.take_take, Nat.min_eq_left h]
  rw [this]
  exact ((List.take_sublist i (l.take k)).filter p).length_le
/-- How many stand ahead of thread t. -/
def ahd (ths : List (List A)) (t : Nat) : Nat := ((ths.take t).map (pc p)).sum
theorem ahd_zero (ths : List (List A)) : ahd p ths 0 = 0 := rfl
theorem ahd_next (ths : List (List A)) (t : Nat) (h : t < ths.length) : ahd p ths (t + 1) = ahd p ths t + pc p ths[t] := by
  unfold ahd
  rw [List.take_succ_eq_append_getElem h, List.map_append, List.sum_append]; simp
theorem ahd_over (ths : List (List A)) (t : Nat) (h : ths.length ≤ t) : ahd p ths (t + 1) = ahd p ths t := by
  unfold ahd
  rw [List.take_of_length_le h, List.take_of_length_le (by omega)]
theorem ahd_mono (ths : List (List A)) {i : Nat} : ∀ {j : Nat}, i ≤ j → ahd p ths i ≤ ahd p ths j
  | 0, h => by obtain rfl : i = 0 := by omega
               exact Nat.le_refl _
  | j + 1, h => by
    by_cases e : i = j + 1
    · subst e; exact Nat.le_refl _
    · refine Nat.le_trans (ahd_mono ths (show i ≤ j by omega)) ?_
      by_cases hj : j < ths.length
      · rw [ahd_next p ths j hj]; omega
      · rw [ahd_over p ths j (by omega)]; exact Nat.le_refl _
def many (ths : List (List A)) : Nat := ahd p ths ths.length
/-- The number of the slot ahead of what stands at that place. -/
def sl (ths : List (List A)) (t k : Nat) : Nat := ahd p ths t + pc p ((ths.getD t []).take k)
theorem getD_at {B : Type} {l : List B} {t : Nat} {d : B} (h : t < l.length) : l.getD t d = l[t] := by
  rw [List.getD_eq_getElem?_getD, List.getElem?_eq_getElem h]; rfl
theorem sl_zero (ths : List (List A)) (t : Nat) : sl p ths t 0 = ahd p ths t := by unfold sl; simp [pc]
theorem sl_next (ths : List (List A)) {t k : Nat} (ht : t < ths.length) (hk : k < ths[t].length) : sl p ths t (k + 1) = sl p ths t k + if p ths[t][k] then 1 else 0 := by
  unfold sl
  rw [getD_at ht, pc_take p _ k hk]; omega
theorem sl_end (ths : List (List A)) {t : Nat} (ht : t < ths.length) : sl p ths t ths[t].length = ahd p ths (t + 1) := by
  unfold sl
  rw [getD_at ht, List.take_length, ahd_next p ths t ht]
theorem sl_many (ths : List (List A)) {t k : Nat} (ht : t < ths.length) (hk : k ≤ ths[t].length) : sl p ths t k ≤ many p ths := by
  refine Nat.le_trans ?_ (ahd_mono p ths (show t + 1 ≤ ths.length by omega))
  rw [← sl_end p ths ht]
  unfold sl
  have := pc_mono p (ths.getD t []) hk
  omega
theorem sl_lt (ths : List (List A)) {t k : Nat} (ht : t < ths.length) (hk : k < ths[t].length) (hp : p ths[t][k] = true) : sl p ths t k < many p ths := by
  have h := sl_many p ths ht (show k + 1 ≤ ths[t].length by omega)
  rw [sl_next p ths ht hk, if_pos hp] at h
  omega
theorem many_le {M N : Nat} (ths : List (List A)) (hn : ths.length ≤ N) (h : ∀ l ∈ ths, l.length ≤ M) : many p ths ≤ N * M := by
  have : ∀ t, t ≤ ths.length → ahd p ths t ≤ t * M := by
    intro t
    induction t with
    | zero => intro _; simp [ahd_zero]
    | succ t ih =>
      intro ht
      rw [ahd_next p ths t (by omega), Nat.succ_mul]
      have h1 := ih (by omega)
      have h2 := h ths[t] (List.getElem_mem _)
      have h3 := pc_len p ths[t]
      omega
  exact Nat.le_trans (this _ (Nat.le_refl _)) (Nat.mul_le_mul_right _ hn)
/-- Is a step there? -/
def isS (ths : List (List A)) (t k : Nat) : Bool := match (ths.getD t [])[k]? with | some x => p x | none => false
theorem isS_at (ths : List (List A)) {t k : Nat} (ht : t < ths.length) (hk : k < ths[t].length) : isS p ths t k = p ths[t][k] := by
  unfold isS; rw [getD_at ht, List.getElem?_eq_getElem hk]
theorem isS_over (ths : List (List A)) {t k : Nat} (ht : t < ths.length) (hk : ths[t].length ≤ k) : isS p ths t k = false := by
  unfold isS; rw [getD_at ht, List.getElem?_eq_none hk]
/-- The places of the steps whose slots are in the row. -/
def ch (ths : List (List A)) (g : List Int) (t k : Nat) : Bool := isS p ths t k && has g (sl p ths t k)
/-- That ahead of a place, in order. -/
def ahead (t k i j : Nat) : Bool := decide (t < i) || (decide (t = i) && decide (k < j))
theorem ahead_next (t k i j : Nat) : ahead t k i (j + 1) = (ahead t k i j || (decide (t = i) && decide (k = j))) := by
  unfold ahead
  by_cases h1 : t < i <;> by_cases h2 : t = i <;> by_cases h3 : k < j <;> by_cases h4 : k = j <;> simp_all <;> omega
/-- The first n of l, with x ahead of those that are chosen. -/
def wthN (c : Nat → Bool) (x : A) (l : List A) : Nat → List A
  | 0 => []
  | n + 1 => wthN c x l n ++ ((if c n then [x] else []) ++ l[n]?.toList)
theorem wthN_next (c : Nat → Bool) (x : A) (l : List A) (n : Nat) (h : n < l.length) : wthN c x l (n + 1) = wthN c x l n ++ ((if c n then [x] else []) ++ [l[n]]) := by
  rw [wthN, List.getElem?_eq_getElem h]; rfl
theorem wthN_len (c : Nat → Bool) (x : A) (l : List A) : ∀ n, (wthN c x l n).length ≤ n * 2
  | 0 => by simp [wthN]
  | n + 1 => by
    have := wthN_len c x l n
    rw [wthN, List.length_append, List.length_append]
    have h1 : (if c n then [x] else []).length ≤ 1 := by split <;> simp
    have h2 : (l[n]?.toList).length ≤ 1 := by cases l[n]? <;> simp
    omega
/-- The first n of l without those that are chosen. -/
def witN (c : Nat → Bool) (l : List A) : Nat → List A
  | 0 => []
  | n + 1 => witN c l n ++ (if c n then [] else l[n]?.toList)
theorem witN_next (c : Nat → Bool) (l : List A) (n : Nat) (h : n < l.length) : witN c l (n + 1) = witN c l n ++ (if c n then [] else [l[n]]) := by
  rw [witN, List.getElem?_eq_getElem h]; rfl
theorem witN_len (c : Nat → Bool) (l : List A) : ∀ n, (witN c l n).length ≤ n
  | 0 => by simp [witN]
  | n + 1 => by
    have := witN_len c l n
    rw [witN, List.length_append]
    have h2 : (if c n then [] else l[n]?.toList).length ≤ 1 := by
      split
      · simp
      · cases l[n]? <;> simp
    omega
/-- With x ahead of each step whose number, from n on, is in the row. -/
def fz (x0 : A) (g : List Int) : Nat → List A → List A
  | n, [] => []
  | n, x :: r => (if p x && has g n then [x0] else []) ++ x :: fz x0 g (n + if p x then 1 else 0) r
theorem fz_snoc (x0 : A) (g : List Int) (y : A) : ∀ (l : List A) (n : Nat), fz p x0 g n (l ++ [y]) = fz p x0 g n l ++ ((if p y && has g ((n + pc p l : Nat) : Int) then [x0] else []) ++ [y])
  | [], n => by simp [fz, pc]
  | x :: r, n => by
    rw [List.cons_append, fz, fz, fz_snoc x0 g y r, pc_cons, List.append_assoc, List.cons_append, Nat.add_assoc]
theorem fz_take (x0 : A) (g : List Int) (n : Nat) (l : List A) (k : Nat) (h : k < l.length) : fz p x0 g n (l.take (k + 1)) = fz p x0 g n (l.take k) ++ ((if p l[k] && has g ((n + pc p (l.take k) : Nat) : Int) then [x0] else []) ++ [l[k]]) := by
  rw [List.take_succ_eq_append_getElem h, fz_snoc]
theorem wth_fz (x0 : A) (g : List Int) (ths : List (List A)) {t : Nat} (ht : t < ths.length) : ∀ n, n ≤ ths[t].length → wthN (ch p ths g t) x0 ths[t] n = fz p x0 g (ahd p ths t) (ths[t].take n)
  | 0, _ => by simp [wthN, fz]
  | n + 1, h => by
    rw [wthN_next _ _ _ n (by omega), fz_take p x0 g _ _ n (by omega), wth_fz x0 g ths ht n (by omega)]
    unfold ch sl
    rw [isS_at p ths ht (by omega), getD_at ht]
/-- All threads with fences. -/
def fzs (x0 : A) (g : List Int) (ths : List (List A)) : List (List A) := (List.range ths.length).map fun t => fz p x0 g (ahd p ths t) (ths.getD t [])
theorem fzs_len (x0 : A) (g : List Int) (ths : List (List A)) : (fzs p x0 g ths).length = ths.length := by unfold fzs; simp
theorem fzs_at (x0 : A) (g : List Int) (ths : List (List A)) {t : Nat} (ht : t < ths.length) : (fzs p x0 g ths)[t]'(by rw [fzs_len]; exact ht) = fz p x0 g (ahd p ths t) ths[t] := by
  unfold fzs; rw [List.getElem_map, List.getElem_range, getD_at ht]
/-! Erased again: the program's way. -/
/-- What is next, is it behind a fence, what stays. -/
def eS (g : List Int) (s : Nat × Bool × List A) (x : A) : Nat × Bool × List A :=
  if p x then (if has g s.1 && !s.2.1 then (s.1, true, s.2.2) else (s.1 + 1, false, s.2.2 ++ [x])) else (s.1, s.2.1, s.2.2 ++ [x])
theorem eS_fz (x0 : A) (h0 : p x0 = true) (g : List Int) : ∀ (l : List A) (n : Nat) (acc : List A), (fz p x0 g n l).foldl (eS p g) (n, false, acc) = (n + pc p l, false, acc ++ l)
  | [], n, acc => by simp [fz, pc]
  | x :: r, n, acc => by
    rw [fz, pc_cons, List.foldl_append]
    cases hx : p x
    · simp only [Bool.false_and, Bool.false_eq_true, if_false, List.foldl_nil, List.foldl_cons, Nat.add_zero]
      rw [show eS p g (n, false, acc) x = (n, false, acc ++ [x]) by simp [eS, hx], eS_fz x0 h0 g r n (acc ++ [x])]
      simp
    · cases hg : has g n
      · simp only [Bool.and_false, Bool.false_eq_true, if_false, List.foldl_nil, List.foldl_cons, if_true]
        rw [show eS p g (n, false, acc) x = (n + 1, false, acc ++ [x]) by simp [eS, hx, hg], eS_fz x0 h0 g r (n + 1) (acc ++ [x])]
        simp [Nat.add_assoc]
      · simp only [Bool.and_true, if_true, List.foldl_nil, List.foldl_cons]
        rw [show eS p g (n, false, acc) x0 = (n, true, acc) by simp [eS, h0, hg], show eS p g (n, true, acc) x = (n + 1, false, acc ++ [x]) by simp [eS, hx, hg], eS_fz x0 h0 g r (n + 1) (acc ++ [x])]
        simp [Nat.add_assoc]
/-- The state at the beginning of thread t. -/
def eA (g : List Int) (ths : List (List A)) : Nat → Nat × Bool
  | 0 => (0, false)
  | t + 1 => let s := (ths.getD t []).foldl (eS p g) ((eA g ths t).1, (eA g ths t).2, []); (s.1, s.2.1)
/-- .. ahead of place k of thread t. -/
def eK (g : List Int) (ths : List (List A)) (t k : Nat) : Nat × Bool × List A := ((ths.getD t []).take k).foldl (eS p g) ((eA p g ths t).1, (eA p g ths t).2, [])
theorem eK_zero (g : List Int) (ths : List (List A)) (t : Nat) : eK p g ths t 0 = ((eA p g ths t).1, (eA p g ths t).2, []) := rfl
theorem eK_next (g : List Int) (ths : List (List A)) {t k : Nat} (ht : t < ths.length) (hk : k < ths[t].length) : eK p g ths t (k + 1) = eS p g (eK p g ths t k) ths[t][k] := by
  unfold eK
  rw [getD_at ht, List.take_succ_eq_append_getElem hk, List.foldl_append]; rfl
theorem eK_end (g : List Int) (ths : List (List A)) {t : Nat} (ht : t < ths.length) : eA p g ths (t + 1) = ((eK p g ths t ths[t].length).1, (eK p g ths t ths[t].length).2.1) := by
  rw [eA]; unfold eK
  rw [getD_at ht, List.take_length]
/-- The places that are laid. -/
def lc (g : List Int) (ths : List (List A)) (t k : Nat) : Bool := isS p ths t k && (has g (eK p g ths t k).1 && !(eK p g ths t k).2.1)
theorem eK_wit (g : List Int) (ths : List (List A)) {t : Nat} (ht : t < ths.length) : ∀ k, k ≤ ths[t].length → witN (lc p g ths t) ths[t] k = (eK p g ths t k).2.2
  | 0, _ => rfl
  | k + 1, h => by
    rw [witN_next _ _ k (by omega), eK_wit g ths ht k (by omega), eK_next p g ths ht (show k < ths[t].length by omega)]
    unfold lc eS
    rw [isS_at p ths ht (show k < ths[t].length by omega)]
    cases p ths[t][k] <;> cases has g (eK p g ths t k).1 <;> cases (eK p g ths t k).2.1 <;> simp
theorem eS_next (g : List Int) (s : Nat × Bool × List A) (x : A) : (eS p g s x).1 ≤ s.1 + if p x then 1 else 0 := by
  unfold eS
  cases p x <;> cases has g s.1 <;> cases s.2.1 <;> simp
theorem eK_le (g : List Int) (ths : List (List A)) : ∀ t, t ≤ ths.length → (eA p g ths t).1 ≤ ahd p ths t ∧ ∀ (ht : t < ths.length) (k : Nat), k ≤ ths[t].length → (eK p g ths t k).1 ≤ sl p ths t k := by
  have key : ∀ t (ht : t < ths.length), (eA p g ths t).1 ≤ ahd p ths t → ∀ k, k ≤ ths[t].length → (eK p g ths t k).1 ≤ sl p ths t k := by
    intro t ht h0 k
    induction k with
    | zero => intro _; rw [eK_zero, sl_zero]; exact h0
    | succ k ih =>
      intro hk
      rw [eK_next p g ths ht (by omega), sl_next p ths ht (by omega)]
      have h1 := ih (by omega)
      have h2 := eS_next p g (eK p g ths t k) ths[t][k]
      omega
  intro t
  induction t with
  | zero => exact fun _ => ⟨Nat.le_refl _, fun ht k hk => key 0 ht (Nat.le_refl _) k hk⟩
  | succ t ih =>
    intro ht
    obtain ⟨h1, h2⟩ := ih (by omega)
    have h3 : (eA p g ths (t + 1)).1 ≤ ahd p ths (t + 1) := by
      rw [eK_end p g ths (show t < ths.length by omega), ← sl_end p ths (show t < ths.length by omega)]
      exact h2 (by omega) _ (Nat.le_refl _)
    exact ⟨h3, fun ht' k hk => key _ ht' h3 k hk⟩
/-- All threads without. -/
def eras (g : List Int) (ths : List (List A)) : List (List A) := (List.range ths.length).map fun t => (eK p g ths t (ths.getD t []).length).2.2
theorem eras_len (g : List Int) (ths : List (List A)) : (eras p g ths).length = ths.length := by unfold eras; simp
theorem eras_at (g : List Int) (ths : List (List A)) {t : Nat} (ht : t < ths.length) : (eras p g ths)[t]'(by rw [eras_len]; exact ht) = (eK p g ths t ths[t].length).2.2 := by
  unfold eras; rw [List.getElem_map, List.getElem_range, getD_at ht]
theorem eA_fzs (x0 : A) (h0 : p x0 = true) (g : List Int) (ths : List (List A)) : ∀ t, t ≤ ths.length → eA p g (fzs p x0 g ths) t = (ahd p ths t, false)
  | 0, _ => rfl
  | t + 1, h => by
    have ht : t < ths.length := by omega
    rw [eA, eA_fzs x0 h0 g ths t (by omega), getD_at (show t < (fzs p x0 g ths).length by rw [fzs_len]; exact ht), fzs_at p x0 g ths ht, eS_fz p x0 h0, ahd_next p ths t ht]
theorem eras_fzs (x0 : A) (h0 : p x0 = true) (g : List Int) (ths : List (List A)) : eras p g (fzs p x0 g ths) = ths := by
  refine List.ext_getElem (by rw [eras_len, fzs_len]) (fun t h1 h2 => ?_)
  rw [eras_at p g _ (show t < (fzs p x0 g ths).length by rw [fzs_len]; exact h2)]
  unfold eK
  rw [getD_at (show t < (fzs p x0 g ths).length by rw [fzs_len]; exact h2), List.take_length, eA_fzs p x0 h0 g ths t (by omega), fzs_at p x0 g ths h2, eS_fz p x0 h0]
  simp
/-! Erased again: the document's way. -/
def dS (g : List Int) (n0 : Nat) (s : Nat × Bool × List A) (x : A) : Nat × Bool × List A :=
  if p x && (has g ((n0 + s.1 : Nat) : Int) && !s.2.1) then (s.1, true, s.2.2) else (s.1 + (if p x then 1 else 0), (if p x then false else s.2.1), s.2.2 ++ [x])
theorem dS_eS (g : List Int) (n0 : Nat) (s : Nat × Bool × List A) (x : A) : eS p g (n0 + s.1, s.2.1, s.2.2) x = (n0 + (dS p g n0 s x).1, (dS p g n0 s x).2.1, (dS p g n0 s x).2.2) := by
  unfold eS dS
  cases p x <;> cases has g ((n0 + s.1 : Nat) : Int) <;> cases s.2.1 <;> simp [Nat.add_assoc]
theorem dS_fold (g : List Int) (n0 : Nat) : ∀ (l : List A) (s : Nat × Bool × List A), l.foldl (eS p g) (n0 + s.1, s.2.1, s.2.2) = (n0 + (l.foldl (dS p g n0) s).1, (l.foldl (dS p g n0) s).2.1, (l.foldl (dS p g n0) s).2.2)
  | [], s => rfl
  | x :: r, s => by
    rw [List.foldl_cons, List.foldl_cons, dS_eS, dS_fold g n0 r]
/-- A thread without, and how many are left. -/
def dT (g : List Int) (n0 : Nat) (l : List A) (k : Nat) : Nat × Bool × List A := (l.take k).foldl (dS p g n0) (0, false, [])
theorem dT_next (g : List Int) (n0 : Nat) (l : List A) (k : Nat) (h : k < l.length) : dT p g n0 l (k + 1) = dS p g n0 (dT p g n0 l k) l[k] := by
  unfold dT
  rw [List.take_succ_eq_append_getElem h, List.foldl_append]; rfl
theorem dT_len (g : List Int) (n0 : Nat) (l : List A) : ∀ k, (dT p g n0 l k).1 ≤ k ∧ (dT p g n0 l k).2.2.length ≤ k
  | 0 => by simp [dT]
  | k + 1 => by
    have ⟨h1, h2⟩ := dT_len g n0 l k
    by_cases h : k < l.length
    · rw [dT_next p g n0 l k h]
      unfold dS
      split
      · exact ⟨by simp; omega, by simp; omega⟩
      · simp only [List.length_append, List.length_cons, List.length_nil]
        refine ⟨?_, by omega⟩
        split <;> omega
    · have : dT p g n0 l (k + 1) = dT p g n0 l k := by
        unfold dT; rw [List.take_of_length_le (by omega), List.take_of_length_le (by omega)]
      rw [this]; omega
theorem dT_fz (x0 : A) (h0 : p x0 = true) (g : List Int) (n0 : Nat) (l : List A) : dT p g n0 (fz p x0 g n0 l) (fz p x0 g n0 l).length = (pc p l, false, l) := by
  unfold dT
  rw [List.take_length]
  have h := dS_fold p g n0 (fz p x0 g n0 l) (0, false, [])
  simp only [Nat.add_zero] at h
  rw [eS_fz p x0 h0] at h
  injection h with h1 h2
  injection h2 with h3 h4
  refine Prod.ext (by simp; omega) (Prod.ext h3.symm ?_)
  rw [← h4]; simp
/-- How many are left of the first t threads. -/
def dN (g : List Int) (ths : List (List A)) : Nat → Nat
  | 0 => 0
  | t + 1 => dN g ths t + (dT p g (dN g ths t) (ths.getD t []) (ths.getD t []).length).1
def dras (g : List Int) (ths : List (List A)) : List (List A) := (List.range ths.length).map fun t => (dT p g (dN p g ths t) (ths.getD t []) (ths.getD t []).length).2.2
theorem dras_len (g : List Int) (ths : List (List A)) : (dras p g ths).length = ths.length := by unfold dras; simp
theorem dras_at (g : List Int) (ths : List (List A)) {t : Nat} (ht : t < ths.length) : (dras p g ths)[t]'(by rw [dras_len]; exact ht) = (dT p g (dN p g ths t) ths[t] ths[t].length).2.2 := by
  unfold dras; rw [List.getElem_map, List.getElem_range, getD_at ht]
theorem dN_next (g : List Int) (ths : List (List A)) {t : Nat} (ht : t < ths.length) : dN p g ths (t + 1) = dN p g ths t + (dT p g (dN p g ths t) ths[t] ths[t].length).1 := by
  rw [dN, getD_at ht]
theorem dN_fzs (x0 : A) (h0 : p x0 = true) (g : List Int) (ths : List (List A)) : ∀ t, t ≤ ths.length → dN p g (fzs p x0 g ths) t = ahd p ths t
  | 0, _ => rfl
  | t + 1, h => by
    have ht : t < ths.length := by omega
    have ht' : t < (fzs p x0 g ths).length := by rw [fzs_len]; exact ht
    rw [dN, getD_at ht', fzs_at p x0 g ths ht, dN_fzs x0 h0 g ths t (by omega), dT_fz p x0 h0, ahd_next p ths t ht]
theorem dras_fzs (x0 : A) (h0 : p x0 = true) (g : List Int) (ths : List (List A)) : dras p g (fzs p x0 g ths) = ths := by
  refine List.ext_getElem (by rw [dras_len, fzs_len]) (fun t h1 h2 => ?_)
  rw [dras_at p g _ (show t < (fzs p x0 g ths).length by rw [fzs_len]; exact h2), dN_fzs p x0 h0 g ths t (by omega), fzs_at p x0 g ths h2, dT_fz p x0 h0]
end
/-! Programs. -/
def fenL : Ln := ⟨6, [], [], [], 0⟩
def withT (F : Fl) (ts : List (List Ln)) : Fl := ⟨F.name, F.init, ts, F.cond, F.all⟩
def fenF (F : Fl) (g : List Int) : Fl := withT F (fzs hasS fenL g F.ths)
theorem hasS_fen : hasS fenL = true := rfl
theorem withT_same {F : Fl} {ts : List (List Ln)} (h : ts = F.ths) : withT F ts = F := by subst h; rfl
theorem withT_inj {F : Fl} {ts : List (List Ln)} (h : withT F ts = F) : ts = F.ths := by
  have := congrArg Fl.ths h; exact this
/-- The program of which it is the one with fences. -/
def eraF (F : Fl) (g : List Int) : Fl := withT F (eras hasS g F.ths)
def eraB (F : Fl) (g : List Int) : Bool := decide (fzs hasS fenL g (eras hasS g F.ths) = F.ths)
def eraR (F : Fl) (g : List Int) : Fl := if eraB F g then eraF F g else F
def draF (F : Fl) (g : List Int) : Fl := withT F (dras hasS g F.ths)
theorem era_doc (F : Fl) (g : List Int) : eraB F g = true → draF F g = eraF F g := fun h => by
  unfold eraB at h
  have h := of_decide_eq_true h
  unfold draF eraF
  congr 1
  conv => lhs; rw [← h]
  exact dras_fzs hasS fenL hasS_fen g _
theorem doc_era (F : Fl) (g : List Int) : fzs hasS fenL g (dras hasS g F.ths) = F.ths → eraB F g = true := fun h => by
  unfold eraB
  refine decide_eq_true ?_
  have : eras hasS g F.ths = dras hasS g F.ths := by
    conv => lhs; rw [← h]
    exact eras_fzs hasS fenL hasS_fen g _
  rw [this]; exact h
theorem era_back (F : Fl) (g : List Int) : eraB (fenF F g) g = true ∧ eraF (fenF F g) g = F := by
  have h : eras hasS g (fenF F g).ths = F.ths := eras_fzs hasS fenL hasS_fen g F.ths
  refine ⟨?_, ?_⟩
  · unfold eraB; rw [h]; exact decide_eq_true rfl
  · unfold eraF; rw [h]; rfl
/-! Codes. -/
def fenS : St := ⟨6, 0, 0, 0, 0⟩
def anyS (s : St) : Bool := true
def jmpS (s : St) : Bool := s.op == 8 || (s.op == 9 || s.op == 10)
/-- How many of the first n places are chosen. -/
def cntC (c : Nat → Bool) : Nat → Nat
  | 0 => 0
  | n + 1 => cntC c n + if c n then 1 else 0
theorem cntC_le (c : Nat → Bool) : ∀ n, cntC c n ≤ n
  | 0 => Nat.le_refl _
  | n + 1 => by rw [cntC]; have := cntC_le c n; split <;> omega
/-- Where a jump goes. -/
def land (c : Nat → Bool) (len : Nat) (to : Int) : Int := to + cntC c (min to len).toNat
def mv (c : Nat → Bool) (len : Nat) (s : St) : St := if jmpS s then ⟨s.op, s.reg, s.loc, s.n, land c len s.to⟩ else s
def insP (P : Pg) (g : List Int) : Pg := ⟨P.init, (List.range P.ths.length).map fun t => (fz anyS fenS g (ahd anyS P.ths t) (P.ths.getD t [])).map (mv (ch anyS P.ths g t) (P.ths.getD t []).length)⟩
theorem insP_len (P : Pg) (g : List Int) : (insP P g).ths.length = P.ths.length := by unfold insP; simp
theorem insP_at (P : Pg) (g : List Int) {t : Nat} (ht : t < P.ths.length) : (insP P g).ths[t]'(by rw [insP_len]; exact ht) = (fz anyS fenS g (ahd anyS P.ths t) P.ths[t]).map (mv (ch anyS P.ths g t) P.ths[t].length) := by
  unfold insP; simp only [List.getElem_map, List.getElem_range, getD_at ht]
/-- Where a slot is. -/
def ofI (ths : List (List St)) (n : Int) : Option (Nat × Nat) :=
  ((List.range ths.length).flatMap fun t => (List.range (ths.getD t []).length).map fun k => (t, k)).find? fun w => decide (((sl anyS ths w.1 w.2 : Nat) : Int) = n)
end Go.Proofs.Ytaelfjphgdlbcaa.SlM
namespace Go.Proofs.Ytaelfjphgdlbcaa.SlM
open CodM (St Pg hasS)
open OpsM (Ln)
open VM (Fl)
set_option linter.unusedVariables false
set_option linter.unusedSimpArgs false

theorem pc_any (l : List St) : pc anyS l = l.length := by
  unfold pc
  rw [show l.filter anyS = l from List.filter_eq_self.2 (fun _ _ => rfl)]
theorem sl_any (ths : List (List St)) {t k : Nat} (ht : t < ths.length) (hk : k ≤ ths[t].length) : sl anyS ths t k = ahd anyS ths t + k := by
  unfold sl
  rw [pc_any, getD_at ht, List.length_take, Nat.min_eq_left hk]
theorem ahd_any (ths : List (List St)) {t : Nat} (ht : t < ths.length) : ahd anyS ths (t + 1) = ahd anyS ths t + ths[t].length := by rw [ahd_next anyS ths t ht, pc_any]
theorem isS_any (ths : List (List St)) {t k : Nat} (ht : t < ths.length) (hk : k < ths[t].length) : isS anyS ths t k = true := by rw [isS_at anyS ths ht hk]; rfl
/-- Each number below many is a slot's. -/
theorem sl_sur (ths : List (List St)) (n : Nat) : ∀ T, T ≤ ths.length → n < ahd anyS ths T → ∃ t k, ∃ (ht : t < ths.length), k < ths[t].length ∧ ahd anyS ths t + k = n
  | 0, _, h => by rw [ahd_zero] at h; omega
  | T + 1, hT, h => by
    by_cases c : n < ahd anyS ths T
    · exact sl_sur ths n T (by omega) c
    · rw [ahd_any ths (show T < ths.length by omega)] at h
      exact ⟨T, n - ahd anyS ths T, by omega, by omega, by omega⟩
theorem sl_inj (ths : List (List St)) {t k u j : Nat} (ht : t < ths.length) (hk : k < ths[t].length) (hu : u < ths.length) (hj : j < ths[u].length) (e : ahd anyS ths t + k = ahd anyS ths u + j) : t = u ∧ k = j := by
  rcases Nat.lt_trichotomy t u with h | h | h
  · have h1 := ahd_mono anyS ths (show t + 1 ≤ u by omega)
    rw [ahd_any ths ht] at h1; omega
  · subst h; exact ⟨rfl, by omega⟩
  · have h1 := ahd_mono anyS ths (show u + 1 ≤ t by omega)
    rw [ahd_any ths hu] at h1; omega
/-- A thread, a place, is there one? -/
structure Pl where
  t : Int
  k : Int
  is : Bool
/-- What stands at slot n. -/
def IsOf (ths : List (List St)) (n : Int) (r : Pl) : Prop :=
  (r = ⟨0, 0, false⟩ ∧ ¬ (0 ≤ n ∧ n < many anyS ths)) ∨ ∃ t k, ∃ (ht : t < ths.length), k < ths[t].length ∧ ((ahd anyS ths t + k : Nat) : Int) = n ∧ r = ⟨t, k, true⟩
theorem IsOf.one {ths : List (List St)} {n : Int} {r q : Pl} (h : IsOf ths n r) (h' : IsOf ths n q) : r = q := by
  have key : ∀ {t k : Nat} (ht : t < ths.length), k < ths[t].length → ((ahd anyS ths t + k : Nat) : Int) = n → 0 ≤ n ∧ n < many anyS ths := by
    intro t k ht hk e
    have h1 := ahd_mono anyS ths (show t + 1 ≤ ths.length by omega)
    rw [ahd_any ths ht] at h1
    unfold many; omega
  rcases h with ⟨rfl, h⟩ | ⟨t, k, ht, hk, e, rfl⟩
  · rcases h' with ⟨rfl, h'⟩ | ⟨u, j, hu, hj, e', rfl⟩
    · rfl
    · exact absurd (key hu hj e') h
  · rcases h' with ⟨rfl, h'⟩ | ⟨u, j, hu, hj, e', rfl⟩
    · exact absurd (key ht hk e) h'
    · obtain ⟨rfl, rfl⟩ := sl_inj ths ht hk hu hj (by omega)
      rfl
theorem IsOf.is {ths : List (List St)} {n : Int} {r : Pl} (h : IsOf ths n r) : r.is = (decide (0 ≤ n) && decide (n < many anyS ths)) := by
  rcases h with ⟨rfl, h⟩ | ⟨t, k, ht, hk, e, rfl⟩
  · simp only; rw [eq_comm, Bool.and_eq_false_iff, decide_eq_false_iff_not, decide_eq_false_iff_not]; omega
  · have h1 := ahd_mono anyS ths (show t + 1 ≤ ths.length by omega)
    rw [ahd_any ths ht] at h1
    simp only; rw [eq_comm, Bool.and_eq_true, decide_eq_true_eq, decide_eq_true_eq]
    unfold many; omega
theorem IsOf.none {ths : List (List St)} {n : Int} (h : ∀ t k (ht : t < ths.length), k < ths[t].length → ¬ ((ahd anyS ths t + k : Nat) : Int) = n) : IsOf ths n ⟨0, 0, false⟩ := by
  refine .inl ⟨rfl, fun ⟨h1, h2⟩ => ?_⟩
  obtain ⟨m, rfl⟩ := Int.eq_ofNat_of_zero_le h1
  obtain ⟨t, k, ht, hk, e⟩ := sl_sur ths m ths.length (Nat.le_refl _) (by unfold many at h2; omega)
  exact h t k ht hk (by omega)
/-- The slot ahead of a step. -/
def numI (ths : List (List St)) (t k : Int) : Int := if 0 ≤ t ∧ t < ths.length ∧ 0 ≤ k ∧ k < (ths.getD t.toNat []).length then ((ahd anyS ths t.toNat + k.toNat : Nat) : Int) else -1
theorem numI_hit {ths : List (List St)} {t k : Nat} (ht : t < ths.length) (hk : k < ths[t].length) : numI ths t k = ((ahd anyS ths t + k : Nat) : Int) := by
  unfold numI
  rw [if_pos ⟨by omega, by omega, by omega, by simp only [Int.toNat_natCast, getD_at ht]; omega⟩]; rfl
theorem numI_no {ths : List (List St)} {t k : Int} (h : ∀ u j (hu : u < ths.length), j < ths[u].length → ¬ ((u : Int) = t ∧ (j : Int) = k)) : numI ths t k = -1 := by
  unfold numI
  rw [if_neg]
  rintro ⟨h1, h2, h3, h4⟩
  have ht : t.toNat < ths.length := by omega
  rw [getD_at ht] at h4
  exact h t.toNat k.toNat ht (by omega) ⟨by omega, by omega⟩
theorem numI_is {ths : List (List St)} {t k : Int} (h : ¬ numI ths t k = -1) : IsOf ths (numI ths t k) ⟨t, k, true⟩ ∧ 0 ≤ numI ths t k := by
  by_cases c : 0 ≤ t ∧ t < ths.length ∧ 0 ≤ k ∧ k < (ths.getD t.toNat []).length
  · obtain ⟨h1, h2, h3, h4⟩ := c
    have ht : t.toNat < ths.length := by omega
    have h4' := h4
    rw [getD_at ht] at h4'
    have e : numI ths t k = ((ahd anyS ths t.toNat + k.toNat : Nat) : Int) := by unfold numI; rw [if_pos ⟨h1, h2, h3, h4⟩]
    rw [e]
    refine ⟨.inr ⟨t.toNat, k.toNat, ht, by omega, rfl, ?_⟩, by omega⟩
    rw [Int.toNat_of_nonneg h1, Int.toNat_of_nonneg h3]
  · exact absurd (by unfold numI; rw [if_neg c]) h
theorem numI_or (ths : List (List St)) (t k : Int) : numI ths t k = -1 ∨ 0 ≤ numI ths t k := by
  by_cases h : numI ths t k = -1
  · exact .inl h
  · exact .inr (numI_is h).2
theorem numI_of {ths : List (List St)} {n : Int} {r : Pl} (h : IsOf ths n r) (hr : r.is = true) : numI ths r.t r.k = n := by
  rcases h with ⟨rfl, h⟩ | ⟨t, k, ht, hk, e, rfl⟩
  · cases hr
  · show numI ths (t : Int) (k : Int) = n
    rw [numI_hit ht hk]; exact e
/-! Rows that say the same of all slots. -/
theorem fz_same {A : Type} {p : A → Bool} {x0 : A} {g g' : List Int} : ∀ (l : List A) (n : Nat), (∀ j, n ≤ j → j < n + pc p l → has g (j : Nat) = has g' (j : Nat)) → fz p x0 g n l = fz p x0 g' n l
  | [], n, _ => rfl
  | x :: r, n, h => by
    rw [fz, fz, fz_same r _ (fun j h1 h2 => h j (by omega) (by rw [pc_cons]; omega))]
    cases hx : p x
    · rfl
    · rw [h n (Nat.le_refl _) (by rw [pc_cons, hx]; simp; omega)]
theorem fz_none {A : Type} {p : A → Bool} {x0 : A} {g : List Int} : ∀ (l : List A) (n : Nat), (∀ j, n ≤ j → j < n + pc p l → has g (j : Nat) = false) → fz p x0 g n l = l
  | [], n, _ => rfl
  | x :: r, n, h => by
    rw [fz, fz_none r _ (fun j h1 h2 => h j (by omega) (by rw [pc_cons]; omega))]
    cases hx : p x
    · rfl
    · rw [h n (Nat.le_refl _) (by rw [pc_cons, hx]; simp; omega)]; rfl
theorem ch_same {g g' : List Int} {ths : List (List St)} (h : ∀ n, n < many anyS ths → has g (n : Nat) = has g' (n : Nat)) {t : Nat} (ht : t < ths.length) : ch anyS ths g t = ch anyS ths g' t := by
  funext k
  unfold ch
  by_cases hk : k < ths[t].length
  · rw [h _ (sl_lt anyS ths ht hk rfl)]
  · rw [isS_over anyS ths ht (by omega)]; rfl
theorem insP_same {P : Pg} {g g' : List Int} (h : ∀ n, n < many anyS P.ths → has g (n : Nat) = has g' (n : Nat)) : insP P g = insP P g' := by
  unfold insP
  congr 1
  refine List.map_congr_left (fun t ht => ?_)
  have ht := List.mem_range.1 ht
  rw [ch_same h ht, getD_at ht, fz_same P.ths[t] (ahd anyS P.ths t) (fun j h1 h2 => h j ?_)]
  refine Nat.lt_of_lt_of_le h2 ?_
  rw [← ahd_next anyS P.ths t ht]
  exact ahd_mono anyS P.ths (by omega)
theorem cntC_none {c : Nat → Bool} (h : ∀ k, c k = false) : ∀ n, cntC c n = 0
  | 0 => rfl
  | n + 1 => by rw [cntC, cntC_none h n, h n]; rfl
theorem insP_none {P : Pg} {g : List Int} (h : ∀ n, n < many anyS P.ths → has g (n : Nat) = false) : insP P g = P := by
  have e : (insP P g).ths = P.ths := by
    refine List.ext_getElem (insP_len P g) (fun t h1 h2 => ?_)
    rw [insP_at P g h2, fz_none P.ths[t] _ (fun j h3 h4 => h j ?_)]
    · have hc : ∀ k, ch anyS P.ths g t k = false := fun k => by
        unfold ch
        by_cases hk : k < P.ths[t].length
        · rw [h _ (sl_lt anyS P.ths h2 hk rfl)]; simp
        · rw [isS_over anyS P.ths h2 (by omega)]; rfl
      conv => rhs; rw [← List.map_id P.ths[t]]
      refine List.map_congr_left (fun s _ => ?_)
      unfold mv land
      rw [cntC_none hc]
      split
      · simp
      · rfl
    · refine Nat.lt_of_lt_of_le h4 ?_
      rw [← ahd_next anyS P.ths t h2]
      exact ahd_mono anyS P.ths (by omega)
  show Pg.mk (insP P g).init (insP P g).ths = P
  rw [e]; rfl
/-! Where steps come to lie. -/
/-- Where what is at place i begins, with its fence. -/
def bg (c : Nat → Bool) (i : Nat) : Nat := i + cntC c i
theorem bg_next (c : Nat → Bool) (i : Nat) : bg c (i + 1) = bg c i + (if c i then 1 else 0) + 1 := by unfold bg; rw [cntC]; omega
theorem bg_mono (c : Nat → Bool) {i : Nat} : ∀ {j}, i ≤ j → bg c i ≤ bg c j
  | 0, h => by obtain rfl : i = 0 := by omega
               exact Nat.le_refl _
  | j + 1, h => by
    by_cases e : i = j + 1
    · subst e; exact Nat.le_refl _
    · have := bg_mono c (show i ≤ j by omega)
      rw [bg_next]; omega
theorem wthN_bg {A : Type} (c : Nat → Bool) (x : A) (l : List A) : ∀ n, n ≤ l.length → (wthN c x l n).length = bg c n
  | 0, _ => rfl
  | n + 1, h => by
    rw [wthN_next c x l n (by omega), List.length_append, List.length_append, wthN_bg c x l n (by omega), bg_next]
    split <;> simp [Nat.add_assoc]
theorem wthN_split {A : Type} (c : Nat → Bool) (x : A) (l : List A) {i : Nat} : ∀ n, i < n → n ≤ l.length → ∃ r, wthN c x l n = wthN c x l (i + 1) ++ r
  | 0, h, _ => by omega
  | n + 1, h, hn => by
    by_cases e : i = n
    · subst e; exact ⟨[], by simp⟩
    · obtain ⟨r, hr⟩ := wthN_split (i := i) c x l n (by omega) (by omega)
      exact ⟨r ++ ((if c n then [x] else []) ++ [l[n]]), by rw [wthN_next c x l n (by omega), hr, List.append_assoc]⟩
theorem wthN_fen {A : Type} (c : Nat → Bool) (x : A) (l : List A) {i n : Nat} (hi : i < n) (hn : n ≤ l.length) (hc : c i = true) : (wthN c x l n)[bg c i]? = some x := by
  obtain ⟨r, hr⟩ := wthN_split c x l n hi hn
  have h1 := wthN_bg c x l i (by omega)
  rw [hr, wthN_next c x l i (by omega), hc, List.append_assoc, List.getElem?_append_right (by omega), h1, Nat.sub_self]; rfl
theorem wthN_own {A : Type} (c : Nat → Bool) (x : A) (l : List A) {i n : Nat} (hi : i < n) (hn : n ≤ l.length) : (wthN c x l n)[bg c (i + 1) - 1]? = some (l[i]'(by omega)) := by
  obtain ⟨r, hr⟩ := wthN_split c x l n hi hn
  have h1 := wthN_bg c x l i (by omega)
  have h2 := bg_next c i
  rw [hr, wthN_next c x l i (by omega), List.append_assoc, List.getElem?_append_right (by split at h2 <;> omega), h1]
  cases hc : c i
  · rw [hc] at h2
    rw [show bg c (i + 1) - 1 - bg c i = 0 by simp at h2; omega]; rfl
  · rw [hc] at h2
    rw [show bg c (i + 1) - 1 - bg c i = 1 by simp at h2; omega]; rfl
theorem insP_row {P : Pg} (g : List Int) {t : Nat} (ht : t < P.ths.length) : (insP P g).ths[t]'(by rw [insP_len]; exact ht) = (wthN (ch anyS P.ths g t) fenS P.ths[t] P.ths[t].length).map (mv (ch anyS P.ths g t) P.ths[t].length) := by
  rw [insP_at P g ht, wth_fz anyS fenS g P.ths ht _ (Nat.le_refl _), List.take_length]
theorem mv_fen (c : Nat → Bool) (len : Nat) : mv c len fenS = fenS := rfl
end Go.Proofs.Ytaelfjphgdlbcaa.SlM
namespace Go.Proofs.Ytaelfjphgdlbcaa
open Go.RowKit
set_option linter.unusedVariables false
set_option linter.unusedSimpArgs false

theorem grown_set (W : World) (b i : Nat) (v : Value) : W.grownBy (W.setCell ⟨b, i, none⟩ v) (some b) :=
  ⟨rfl, rfl, rfl, by simp, fun k _ hk => heap_setCell_other W ⟨b, i, none⟩ k v (fun e => hk (by rw [e]))⟩
structure RowsA {A : Type} (W : World) (base : Nat) (T : TypeId) (cs : List A → List Value) (vs : List Value) (xss : List (List A)) : Prop where
  len : vs.length = xss.length
  own : ∀ j (hj : j < xss.length), ∃ u, vs[j]? = some u ∧ W.ownsRow base T 5 u xss[j].length (cs xss[j])
  apart : ∀ (i j : Nat) (u v : Value), i ≠ j → vs[i]? = some u → vs[j]? = some v → u.ownBlock = none ∨ u.ownBlock ≠ v.ownBlock
section
variable {A : Type} {W W' : World} {base : Nat} {T : TypeId} {cs : List A → List Value} {vs : List Value} {xss : List (List A)}
theorem RowsA.of (h : RowsA W base T cs vs xss) {j : Nat} {u : Value} (hu : vs[j]? = some u) : ∃ hj : j < xss.length, W.ownsRow base T 5 u xss[j].length (cs xss[j]) := by
  have hj : j < xss.length := by rw [← h.len]; exact (List.getElem?_eq_some_iff.1 hu).1
  obtain ⟨u', h1, h2⟩ := h.own j hj
  rw [hu] at h1; injection h1 with h1; subst h1
  exact ⟨hj, h2⟩
theorem RowsA.kept {row : Option Nat} (h : RowsA W base T cs vs xss) (hg : W.grownBy W' row) (hne : ∀ (j : Nat) (u : Value), vs[j]? = some u → u.ownBlock = none ∨ u.ownBlock ≠ row) : RowsA W' base T cs vs xss :=
  ⟨h.len, fun j hj => by obtain ⟨u, h1, h2⟩ := h.own j hj; exact ⟨u, h1, h2.kept hg (hne j u h1)⟩, h.apart⟩
theorem RowsA.new (h : RowsA W base T cs vs xss) (hg : W.grownBy W' none) : RowsA W' base T cs vs xss :=
  h.kept hg (fun j u _ => by cases u.ownBlock; exact .inl rfl; exact .inr (fun e => by cases e))
theorem RowsA.below (h : RowsA W base T cs vs xss) (hb : Below W.heap.size W W') : RowsA W' base T cs vs xss :=
  ⟨h.len, fun j hj => by obtain ⟨u, h1, h2⟩ := h.own j hj; exact ⟨u, h1, own_below h2 hb⟩, h.apart⟩
theorem RowsA.other (h : RowsA W base T cs vs xss) {b2 s2 m : Nat} {T2 : TypeId} {v : Value} {ys : List Value} (hT : T ≠ T2) (hv : W.ownsRow b2 T2 s2 v m ys) (hg : W.grownBy W' v.ownBlock) : RowsA W' base T cs vs xss :=
  h.kept hg (fun j u hu => by obtain ⟨hj, h2⟩ := h.of hu; exact own_apart hT h2 hv)
theorem RowsA.setAt (h : RowsA W base T cs vs xss) {i : Nat} {u u' : Value} {ys : List A} (hu : vs[i]? = some u) (hg : W.grownBy W' u.ownBlock) (ho : W'.ownsRow base T 5 u' ys.length (cs ys)) (hat : u'.ownBlock = u.ownBlock ∨ u'.ownBlock = some W.heap.size) :
    RowsA W' base T cs (vs.set i u') (xss.set i ys) := by
  have hi : i < vs.length := (List.getElem?_eq_some_iff.1 hu).1
  have key : ∀ (j : Nat) (v : Value), j ≠ i → vs[j]? = some v → (u'.ownBlock = none ∨ u'.ownBlock ≠ v.ownBlock) ∧ (v.ownBlock = none ∨ v.ownBlock ≠ u'.ownBlock) := by
    intro j v hj hv
    obtain ⟨hjl, hov⟩ := h.of hv
    rcases hat with e | e
    · rw [e]; exact ⟨h.apart i j u v (Ne.symm hj) hu hv, h.apart j i v u hj hv hu⟩
    · rw [e]
      have hlt : v.ownBlock ≠ some W.heap.size := fun c => by have := (hov.lt _ c).2; omega
      exact ⟨.inr (Ne.symm hlt), .inr hlt⟩
  refine ⟨by simp [h.len], fun j hj => ?_, fun a b x y hab hx hy => ?_⟩
  · by_cases e : j = i
    · subst e
      refine ⟨u', by rw [List.getElem?_set_self hi], ?_⟩
      simpa using ho
    · have hj' : j < xss.length := by simpa using hj
      obtain ⟨v, h1, h2⟩ := h.own j hj'
      refine ⟨v, by rw [List.getElem?_set_ne (Ne.symm e)]; exact h1, ?_⟩
      rw [List.getElem_set_ne (Ne.symm e)]
      exact h2.kept hg (h.apart j i v u e h1 hu)
  · by_cases ea : a = i
    · subst ea
      rw [List.getElem?_set_self hi] at hx; injection hx with hx; subst hx
      rw [List.getElem?_set_ne (fun c => hab c)] at hy
      exact (key b y (fun c => hab c.symm) hy).1
    · rw [List.getElem?_set_ne (Ne.symm ea)] at hx
      by_cases eb : b = i
      · subst eb
        rw [List.getElem?_set_self hi] at hy; injection hy with hy; subst hy
        exact (key a x ea hx).2
      · rw [List.getElem?_set_ne (Ne.symm eb)] at hy
        exact h.apart a b x y hab hx hy
theorem RowsA.made (W : World) (base : Nat) (T : TypeId) (cs : List A → List Value) (hcs : cs [] = []) (n : Nat) : RowsA W base T cs (List.replicate n (.slice none 0 0)) (List.replicate n []) := by
  refine ⟨by simp, fun j hj => ⟨.slice none 0 0, by rw [List.getElem?_replicate, if_pos (by simpa using hj)], ?_⟩, fun i j u v _ hu _ => .inl ?_⟩
  · rw [List.getElem_replicate, hcs]; exact World.ownsRow_nil _ _ _ _
  · rw [List.getElem?_replicate] at hu
    split at hu
    · injection hu with hu; subst hu; rfl
    · cases hu
end
/-! Rows that are done, a row under way, rows to come. -/
section
variable {A : Type}
def rowsAt (full : Nat → List A) (part : List A) (n i : Nat) : List (List A) := (List.range n).map fun j => if j < i then full j else if j = i then part else []
theorem rowsAt_len (full : Nat → List A) (part : List A) (n i : Nat) : (rowsAt full part n i).length = n := by simp [rowsAt]
theorem rowsAt_at (full : Nat → List A) (part : List A) {n i : Nat} (h : i < n) : (rowsAt full part n i)[i]'(by rw [rowsAt_len]; exact h) = part := by simp [rowsAt]
theorem rowsAt_set (full : Nat → List A) (part part' : List A) {n i : Nat} (h : i < n) : (rowsAt full part n i).set i part' = rowsAt full part' n i := by
  refine List.ext_getElem (by simp [rowsAt_len]) (fun j h1 h2 => ?_)
  by_cases e : j = i
  · subst e; rw [List.getElem_set_self, rowsAt_at full part' h]
  · rw [List.getElem_set_ne (Ne.symm e)]; simp [rowsAt, e]
theorem rowsAt_next (full : Nat → List A) (n i : Nat) : rowsAt full (full i) n i = rowsAt full [] n (i + 1) := by
  unfold rowsAt
  refine List.map_congr_left (fun j _ => ?_)
  by_cases e : j < i
  · simp [e, show j < i + 1 by omega]
  · by_cases e2 : j = i
    · subst e2; simp
    · simp [e, e2, show ¬ j < i + 1 by omega]
theorem rowsAt_zero (full : Nat → List A) (n : Nat) : rowsAt full [] n 0 = List.replicate n [] := by
  refine List.ext_getElem (by simp [rowsAt_len]) (fun j h1 h2 => ?_)
  simp [rowsAt]
theorem rowsAt_end (full : Nat → List A) (p : List A) (n : Nat) : rowsAt full p n n = (List.range n).map full := by
  unfold rowsAt
  refine List.map_congr_left (fun j hj => ?_)
  simp [List.mem_range.1 hj]
theorem wthN_congr {c c' : Nat → Bool} (x : A) (l : List A) : ∀ n, (∀ k, k < n → c k = c' k) → SlM.wthN c x l n = SlM.wthN c' x l n
  | 0, _ => rfl
  | n + 1, h => by rw [SlM.wthN, SlM.wthN, wthN_congr x l n (fun k hk => h k (by omega)), h n (Nat.lt_succ_self n)]
theorem witN_congr {c c' : Nat → Bool} (l : List A) : ∀ n, (∀ k, k < n → c k = c' k) → SlM.witN c l n = SlM.witN c' l n
  | 0, _ => rfl
  | n + 1, h => by rw [SlM.witN, SlM.witN, witN_congr l n (fun k hk => h k (by omega)), h n (Nat.lt_succ_self n)]
end
/-- append of written-out cells, as one step of a drawn region. -/
theorem step_append_at {P : Program} {w : World} {ops : Array Oper} {o : Oper} {a : Act} {K : Act → World → Prop} {Q : Exit → Act → World → Prop} {E : Prop} (hgd : o.guard = none) (s x : Operand) (t : TypeId)
    (ho : o.op = .call { callee := .builtin .append, args := #[s, x], argTypes := #[t, t] })
    (base : Nat) (e : TypeId) (i : TypeInfo) (z : Value) (size bytes : Nat) (ht : P.underlying t = some (.slice e)) (hi : P.info? e = some i) (hz : i.zero = some z)
    (hsize : i.size = size) (hby : i.bytes = bytes) (hzs : z.cells.size = size) (hsz : 0 < size)
    (v : Value) (n : Nat) (xs : List Value) (hs : a.eval s = v) (hown : w.ownsRow base e size v n xs)
    (ad : Addr) (m c : Nat) (news : List Value) (hx : a.eval x = .slice (some ad) m c) (hl : news.length = m * size) (hnews : ∀ j u, news[j]? = some u → w.cell? (ad.add j) = some u) (h1 : ∀ u ∈ news, u.oneCell' = true)
    (h63 : n + m ≤ maxLen) (hbytes : (n + m) * bytes ≤ 140737488355328) (hbase : base ≤ w.heap.size)
    (h : ∀ v' w', w'.ownsRow base e size v' (n + m) (xs ++ news) → w.grownBy w' v.ownBlock → (v'.ownBlock = v.ownBlock ∨ v'.ownBlock = some w.heap.size) → K (a.put o.dst v') w') :
    if Region.wanted o (yielded ops a.tmps) = true then Oper.wp P o a w K Q else E := by
  have hw : Region.wanted o (yielded ops a.tmps) = true := by simp [Region.wanted, hgd]
  rw [if_pos hw]
  obtain ⟨v', w', hr, h2, h3, -, h5⟩ := run_append_own_at (P := P) w base t o.type e i z size bytes ht hi hz hsize hby hzs hsz v n xs hown ad m c news hl hnews h1 h63 hbytes hbase
  unfold Oper.wp execOp
  simp only [ho, resolve, invoke, builtin, Sem.run_bind, Sem.run_pure, Result.andThen_ok, List.map_toArray, List.map_cons, List.map_nil, hs, hx, hr]
  exact h v' w' h2 h3 h5
end Go.Proofs.Ytaelfjphgdlbcaa
namespace Go.Proofs.Ytaelfjphgdlbcaa
open Go.RowKit
set_option linter.unusedVariables false
set_option linter.unusedSimpArgs false
/-- vm: what the row holds; vr: the rows' values (unlike between an append and its store). -/
structure WS {A : Type} (w1 : World) (T T2 : TypeId) (cs : List A → List Value) (bm n gy : Nat) (ys : List Value) (vm vr : List Value) (xss : List (List A)) (W : World) : Prop where
  more : W.ownsRow w1.heap.size T2 1 (.slice (some ⟨bm, 0, none⟩) n n) n vm
  rows : RowsA W w1.heap.size T cs vr xss
  y : ∀ (i : Nat) (v : Value), ys[i]? = some v → W.cell? ⟨gy, i, none⟩ = some v
  yb : gy ≠ bm ∧ ∀ (j : Nat) (u : Value), vr[j]? = some u → u.ownBlock ≠ some gy
  ylt : gy < W.heap.size
  below : Below w1.heap.size w1 W
section
variable {A : Type} {w1 W W' : World} {T T2 : TypeId} {cs : List A → List Value} {bm n gy : Nat} {ys vm vr : List Value} {xss : List (List A)}
theorem WS.lt (h : WS w1 T T2 cs bm n gy ys vm vr xss W) : w1.heap.size ≤ bm ∧ bm < W.heap.size := h.more.lt bm rfl
theorem WS.alloc (h : WS w1 T T2 cs bm n gy ys vm vr xss W) (o : Obj) : WS w1 T T2 cs bm n gy ys vm vr xss (W.alloc o) :=
  ⟨h.more.alloc o, h.rows.new (World.grownBy_alloc W o none), fun i v hv => (World.grownBy_alloc W o none).cell (h.y i v hv) (by simp), h.yb, by rw [World.size_alloc]; exact Nat.lt_succ_of_lt h.ylt, h.below.alloc h.below.size o⟩
theorem WS.drew (h : WS w1 T T2 cs bm n gy ys vm vr xss W) : WS w1 T T2 cs bm n gy ys vm vr xss W.drew := ⟨h.more, ⟨h.rows.len, h.rows.own, h.rows.apart⟩, h.y, h.yb, h.ylt, h.below.drew⟩
theorem WS.load (h : WS w1 T T2 cs bm n gy ys vm vr xss W) {j : Nat} {u : Value} (hj : j < n) (hu : vm[j]? = some u) : W.cell? ⟨bm, j, none⟩ = some u := by
  rw [h.more.cellAt j (by omega)]; exact hu
theorem WS.frz (h : WS w1 T T2 cs bm n gy ys vm vr xss W) (j : Nat) : W.frozen? ⟨bm, j, none⟩ = false := h.more.frozenAt j
theorem WS.append (h : WS w1 T T2 cs bm n gy ys vm vr xss W) (hT : T ≠ T2) {j : Nat} {u u' : Value} {zs : List A} (hu : vr[j]? = some u) (ho : W'.ownsRow w1.heap.size T 5 u' zs.length (cs zs)) (hg : W.grownBy W' u.ownBlock) (hat : u'.ownBlock = u.ownBlock ∨ u'.ownBlock = some W.heap.size) :
    WS w1 T T2 cs bm n gy ys vm (vr.set j u') (xss.set j zs) W' := by
  obtain ⟨hj, hou⟩ := h.rows.of hu
  refine ⟨own_grown (Ne.symm hT) h.more hou hg, h.rows.setAt hu hg ho hat, fun i v hv => hg.cell (h.y i v hv) (fun e => h.yb.2 j u hu e.symm), ⟨h.yb.1, fun i v hv => ?_⟩, Nat.lt_of_lt_of_le h.ylt hg.size, below_append h.below hou (Nat.le_refl _) h.below.size hg⟩
  by_cases e : i = j
  · subst e
    rw [List.getElem?_set_self (List.getElem?_eq_some_iff.1 hu).1] at hv; injection hv with hv; subst hv
    rcases hat with e | e
    · rw [e]; exact h.yb.2 i u hu
    · rw [e]; intro c; injection c with c; have := h.ylt; omega
  · rw [List.getElem?_set_ne (Ne.symm e)] at hv
    exact h.yb.2 i v hv
theorem WS.store (h : WS w1 T T2 cs bm n gy ys vm vr xss W) (hT : T ≠ T2) {j : Nat} {u : Value} (he : vr = vm.set j u) : WS w1 T T2 cs bm n gy ys vr vr xss (W.setCell ⟨bm, j, none⟩ u) := by
  have hg := grown_set W bm j u
  refine ⟨by rw [he]; exact (h.more.stored j u).1, h.rows.kept hg (fun i v hv => ?_), fun i v hv => hg.cell (h.y i v hv) (fun e => by injection e with e; exact h.yb.1 e), h.yb, Nat.lt_of_lt_of_le h.ylt hg.size, h.below.setCell (p := ⟨bm, j, none⟩) h.lt.1 u⟩
  obtain ⟨hi, ho⟩ := h.rows.of hv
  have := own_apart hT ho h.more
  simpa [Value.ownBlock] using this
theorem WS.row {full : Nat → List A} {pt : List A} {j : Nat} (h : WS w1 T T2 cs bm n gy ys vm vr (rowsAt full pt n j) W) (hj : j < n) :
    ∃ Au cu, vr[j]? = some (.slice Au pt.length cu) ∧ ∀ (gy' : Nat) (ys' vm' : List Value) (W' : World), WS w1 T T2 cs bm n gy' ys' vm' vr (rowsAt full pt n j) W' → W'.ownsRow w1.heap.size T 5 (.slice Au pt.length cu) pt.length (cs pt) := by
  obtain ⟨u, hu, ho⟩ := h.rows.own j (by rw [rowsAt_len]; exact hj)
  rw [rowsAt_at full pt hj] at ho
  obtain ⟨Au, cu, rfl⟩ := own_slice ho
  refine ⟨Au, cu, hu, fun gy' ys' vm' W' h' => ?_⟩
  obtain ⟨hj', ho'⟩ := h'.rows.of hu
  rw [rowsAt_at full pt hj] at ho'
  exact ho'
/-- A new box takes the elder one's place. -/
theorem WS.box (h : WS w1 T T2 cs bm n gy ys vm vr xss W) (zs : List Value) (T' : TypeId) : WS w1 T T2 cs bm n W.heap.size zs vm vr xss (W.alloc (.cells zs.toArray T')) := by
  obtain ⟨h1, h2, -, -, -, h6⟩ := h.alloc (.cells zs.toArray T')
  refine ⟨h1, h2, fun i v hv => ?_, ⟨fun e => ?_, fun j u hu e => ?_⟩, by rw [World.size_alloc]; omega, h6⟩
  · have e := World.news_of_block (heap_alloc_new W (.cells zs.toArray T')) i v (by simpa using hv)
    rw [Addr.add_lit, Nat.zero_add] at e; exact e
  · have := h.lt.2; omega
  · obtain ⟨hj, ho⟩ := h.rows.of hu
    have := (ho.lt _ e).2; omega
end
end Go.Proofs.Ytaelfjphgdlbcaa
namespace Go.Proofs.Ytaelfjphgdlbcaa
open Go.RowKit
open Go.Maps (Keyed)
set_option linter.unusedVariables false
set_option linter.unusedSimpArgs false
set_option maxRecDepth 100000

theorem plain_bool_inv {H : Type} {P : Program} {e : TypeId} (he : P.underlying e = some .bool) {v : Value} {z : DataW H × List MemPlace} (h : plainElem P e v = some z) : ∃ x, v = .bool x ∧ z = (.lit (.bool x), []) := by
  unfold plainElem at h
  rw [he] at h
  cases v <;> simp at h
  exact ⟨_, rfl, h.symm⟩
theorem own_look_bool {H : Type} {P : Program} {w : World} {k b n : Nat} {D : DataW H} {t e : TypeId} (h : w.ownsMap P k (plainElem P e) b n D) (K : Keyed P k) (ht : P.underlying t = some (.map k e)) (he : P.underlying e = some .bool) (hz : (zeroValue e).run P w = .ok (.bool false) w)
    {key : Value} {kl : Lit} (hkey : keyOf P k key = some kl) : ∃ c, (Instr.lookup t (.map (some b)) key false).run P w = .ok (.bool c) w ∧ D.atKey kl (.lit (.bool false)) = .lit (.bool c) := by
  obtain ⟨v, ps, hrun, hv⟩ := h.lookup K ht hz (plainElem_bool he false) hkey
  obtain ⟨c, rfl, hc⟩ := plain_bool_inv he hv
  simp only [Prod.mk.injEq] at hc
  exact ⟨c, hrun, hc.1⟩
/-- Block b is a map keyed by numbers, of at most n entries, that says f. -/
def MapI (w : World) (b n : Nat) (f : Int → Bool) : Prop :=
  ∃ D : DataW Unit, w.ownsMap Try.prog 3 (plainElem Try.prog 4) b n D ∧ Maps.IsMap D ∧ ∀ i : Int, D.atKey (.int .i64 i) (.lit (.bool false)) = .lit (.bool (f i))
theorem MapI.kept {w w' : World} {b n : Nat} {f : Int → Bool} {row : Option Nat} (h : MapI w b n f) (hg : w.grownBy w' row) (hne : some b ≠ row) : MapI w' b n f := by
  obtain ⟨D, h1, h2⟩ := h
  exact ⟨D, h1.kept hg hne, h2⟩
theorem MapI.lt {w : World} {b n : Nat} {f : Int → Bool} (h : MapI w b n f) : b < w.heap.size := by
  obtain ⟨D, h1, _⟩ := h
  exact h1.lt
theorem MapI.below {w w' : World} {B b n : Nat} {f : Int → Bool} (h : MapI w b n f) (hb : Below B w w') (hB : b < B) : MapI w' b n f := by
  obtain ⟨D, ⟨es, cl, h1, h2⟩, h3⟩ := h
  exact ⟨D, ⟨es, cl, (hb.block b hB).trans h1, h2⟩, h3⟩
theorem MapI.heap {w w' : World} {b n : Nat} {f : Int → Bool} (h : MapI w b n f) (e : w'.heap[b]? = w.heap[b]?) : MapI w' b n f := by
  obtain ⟨D, ⟨es, cl, h1, h2⟩, h3⟩ := h
  exact ⟨D, ⟨es, cl, e.trans h1, h2⟩, h3⟩
theorem MapI.mono {w : World} {b n n' : Nat} {f : Int → Bool} (h : MapI w b n f) (hn : n ≤ n') : MapI w b n' f := by
  obtain ⟨D, h1, h2⟩ := h
  exact ⟨D, h1.mono hn, h2⟩
theorem MapI.made (w : World) : MapI (w.alloc (.map #[] 0)) w.heap.size 0 (fun _ => false) :=
  ⟨.map [], World.ownsMap_made w _ _ _, Maps.isMap_empty, fun i => rfl⟩
theorem mapI_key {i : Int} (h : (Lit.int .i64 i).wf = true) : keyOf Try.prog 3 (.int .i64 i) = some (.int .i64 i) := Maps.keyOf_int_mk Try.underlying3 h
theorem mapI_put {D : DataW Unit} {f : Int → Bool} (hm : Maps.IsMap D) (h : ∀ i : Int, D.atKey (.int .i64 i) (.lit (.bool false)) = .lit (.bool (f i))) (x : Int) :
    Maps.IsMap (D.put (.int .i64 x) (.lit (.bool true))) ∧ ∀ i : Int, (D.put (.int .i64 x) (.lit (.bool true))).atKey (.int .i64 i) (.lit (.bool false)) = .lit (.bool (f i || decide (i = x))) := by
  refine ⟨hm.put _ _, fun i => ?_⟩
  by_cases e : i = x
  · subst e
    rw [Maps.atKey_put_same hm (by trivial)]; simp
  · rw [Maps.atKey_put_other (by intro c; injection c with _ c; exact e c), h i]
    simp [e]
/-- Keyed by places. -/
def MapP (w : World) (b n : Nat) (f : Int → Int → Bool) : Prop :=
  ∃ D : DataW Unit, w.ownsMap Try.prog 71 (plainElem Try.prog 4) b n D ∧ Maps.IsMap D ∧
    ∀ (t k : Int) (l : Lit), keyOf Try.prog 71 (.agg #[.int .i64 t, .int .i64 k]) = some l → D.atKey l (.lit (.bool false)) = .lit (.bool (f t k))
theorem MapP.kept {w w' : World} {b n : Nat} {f : Int → Int → Bool} {row : Option Nat} (h : MapP w b n f) (hg : w.grownBy w' row) (hne : some b ≠ row) : MapP w' b n f := by
  obtain ⟨D, h1, h2⟩ := h
  exact ⟨D, h1.kept hg hne, h2⟩
theorem MapP.lt {w : World} {b n : Nat} {f : Int → Int → Bool} (h : MapP w b n f) : b < w.heap.size := by
  obtain ⟨D, h1, _⟩ := h
  exact h1.lt
theorem MapP.heap {w w' : World} {b n : Nat} {f : Int → Int → Bool} (h : MapP w b n f) (e : w'.heap[b]? = w.heap[b]?) : MapP w' b n f := by
  obtain ⟨D, ⟨es, cl, h1, h2⟩, h3⟩ := h
  exact ⟨D, ⟨es, cl, e.trans h1, h2⟩, h3⟩
theorem MapP.below {w w' : World} {B b n : Nat} {f : Int → Int → Bool} (h : MapP w b n f) (hb : Below B w w') (hB : b < B) : MapP w' b n f := h.heap (hb.block b hB)
theorem MapP.mono {w : World} {b n n' : Nat} {f : Int → Int → Bool} (h : MapP w b n f) (hn : n ≤ n') : MapP w b n' f := by
  obtain ⟨D, h1, h2⟩ := h
  exact ⟨D, h1.mono hn, h2⟩
theorem MapP.made (w : World) : MapP (w.alloc (.map #[] 0)) w.heap.size 0 (fun _ _ => false) :=
  ⟨.map [], World.ownsMap_made w _ _ _, Maps.isMap_empty, fun _ _ _ _ => rfl⟩
theorem place_laid : laidOutB Try.prog = true := by kernel_rfl
theorem place_row : (71 : TypeId) < Try.prog.types.size := of_decide_eq_true (by kernel_rfl)
theorem place_wide : (match Try.prog.underlying 71 with | some (.array _ _) | some (.struct _) => true | _ => false) = true := by kernel_rfl
theorem place_law : Keyed Try.prog 71 := Keyed.of_law (deep_law_laid place_laid (m := 3) (by omega) place_row (by kernel_rfl) place_wide)
theorem place_keyType : Try.prog.keyType 71 = true := by kernel_rfl
theorem place_cells : Try.prog.cellsOf 71 = 2 := by kernel_rfl
theorem int_cells : Try.prog.cellsOf 3 = 1 := by kernel_rfl
theorem place_size : ∃ m, Try.prog.types.size = m + 1 := ⟨Try.prog.types.size - 1, by kernel_rfl⟩
theorem place_fields : ∃ f g : Field, Try.prog.underlying 71 = some (.struct #[f, g]) ∧ f.type = 3 ∧ f.offset = 0 ∧ g.type = 3 ∧ g.offset = 1 ∧ (f.name != "_") = true ∧ (g.name != "_") = true :=
  ⟨_, _, Try.underlying71, rfl, rfl, rfl, rfl, rfl, rfl⟩
theorem int_lits (m : Nat) {t : Int} (ht : (Lit.int .i64 t).wf = true) : Try.prog.keyLits (m + 1) 3 [.int .i64 t] = some [.int .i64 t] := by
  rw [Program.keyLits.eq_def]
  simp only [Try.underlying3, ht, and_self, if_true]
theorem place_lits (m : Nat) {t k : Int} (ht : (Lit.int .i64 t).wf = true) (hk : (Lit.int .i64 k).wf = true) : Try.prog.keyLits (m + 1 + 1) 71 [.int .i64 t, .int .i64 k] = some [.int .i64 t, .int .i64 k] := by
  obtain ⟨f, g, hu, e1, e2, e3, e4, e5, e6⟩ := place_fields
  rw [Program.keyLits.eq_def]
  simp only [hu, place_cells, List.length_cons, List.length_nil]
  have hall : (#[f, g] : Array Field).all (·.name != "_") = true := by simp [e5, e6]
  rw [if_pos ⟨trivial, hall⟩]
  have l1 : Try.prog.keyLits (m + 1) f.type (([.int .i64 t, .int .i64 k] : List Value).drop f.offset |>.take (Try.prog.cellsOf f.type)) = some [.int .i64 t] := by
    rw [e1, e2, int_cells]; exact int_lits m ht
  have l2 : Try.prog.keyLits (m + 1) g.type (([.int .i64 t, .int .i64 k] : List Value).drop g.offset |>.take (Try.prog.cellsOf g.type)) = some [.int .i64 k] := by
    rw [e3, e4, int_cells]; exact int_lits m hk
  rw [List.mapM_cons, List.mapM_cons, List.mapM_nil, l1, l2]
  rfl
theorem mapP_key {t k : Int} (ht : (Lit.int .i64 t).wf = true) (hk : (Lit.int .i64 k).wf = true) : ∃ l, keyOf Try.prog 71 (.agg #[.int .i64 t, .int .i64 k]) = some l := by
  have hf : (Value.agg #[.int .i64 t, .int .i64 k]).formed Try.prog 71 = true := by
    unfold Value.formed
    rw [Try.underlying71]
    simp only [place_cells]; rfl
  obtain ⟨m, hm⟩ := place_size
  refine ⟨.string (keyBytes [.int .i64 t, .int .i64 k]), ?_⟩
  unfold keyOf
  rw [Try.underlying71]
  simp only [place_keyType, hf, Bool.and_self, if_true]
  rw [show (Value.agg #[.int .i64 t, .int .i64 k]).cells.toList = [.int .i64 t, .int .i64 k] by rfl, hm, place_lits m ht hk]
  rfl
theorem mapP_put {D : DataW Unit} {f : Int → Int → Bool} (hm : Maps.IsMap D) (h : ∀ (t k : Int) (l : Lit), keyOf Try.prog 71 (.agg #[.int .i64 t, .int .i64 k]) = some l → D.atKey l (.lit (.bool false)) = .lit (.bool (f t k)))
    {x y : Int} {lx : Lit} (hx : keyOf Try.prog 71 (.agg #[.int .i64 x, .int .i64 y]) = some lx) :
    Maps.IsMap (D.put lx (.lit (.bool true))) ∧ ∀ (t k : Int) (l : Lit), keyOf Try.prog 71 (.agg #[.int .i64 t, .int .i64 k]) = some l →
      (D.put lx (.lit (.bool true))).atKey l (.lit (.bool false)) = .lit (.bool (f t k || (decide (t = x) && decide (k = y)))) := by
  refine ⟨hm.put _ _, fun t k l hl => ?_⟩
  by_cases e : l = lx
  · subst e
    have e2 := place_law.inj hl hx
    simp only [Value.agg.injEq, Array.mk.injEq, List.cons.injEq, Value.int.injEq, true_and, and_true] at e2
    rw [Maps.atKey_put_same hm (place_law.key hx)]
    simp [e2]
  · rw [Maps.atKey_put_other e, h t k l hl]
    by_cases c : t = x ∧ k = y
    · obtain ⟨rfl, rfl⟩ := c
      rw [hl] at hx
      exact absurd (by injection hx) e
    · have : (decide (t = x) && decide (k = y)) = false := by simpa using c
      rw [this, Bool.or_false]

section
variable {P : Program} (w : World) {ops : Array Oper} {rest : List Oper} {o : Oper} {a : Act} {Q : Exit → Act → World → Prop}
theorem zero_bool (w : World) : (zeroValue 4).run Try.prog w = .ok (.bool false) w := by kernel_rfl
/-- The look-up in a map keyed by numbers. -/
theorem at_mapI (hg : o.guard = none) (m x : Operand) (hop : o.op = Op.lookup 101 m x false) (b n : Nat) (f : Int → Bool) (hm : a.eval m = .map (some b)) (hown : MapI w b n f) (i : Int) (hx : a.eval x = .int .i64 i) (hi : (Lit.int .i64 i).wf = true)
    (hK : wpList Try.prog ops Q rest (a.put o.dst (.bool (f i))) w) : wpList Try.prog ops Q (o :: rest) a w := by
  refine wpList_plain hg fun K' hK' => ?_
  obtain ⟨D, h1, h2, h3⟩ := hown
  obtain ⟨c, hrun, hat⟩ := own_look_bool h1 (Maps.int_keyed Try.underlying3) Try.underlying101 Try.underlying4 (zero_bool w) (mapI_key hi)
  rw [h3 i] at hat
  injection hat with hat
  injection hat with hat
  unfold Oper.wp
  simp [execOp, hop, hm, hx, hrun, Result.andThen]
  exact hK' _ _ (hat ▸ hK)
theorem at_mapP (hg : o.guard = none) (m x : Operand) (hop : o.op = Op.lookup 76 m x false) (b n : Nat) (f : Int → Int → Bool) (hm : a.eval m = .map (some b)) (hown : MapP w b n f) (t k : Int) (hx : a.eval x = .agg #[.int .i64 t, .int .i64 k]) (ht : (Lit.int .i64 t).wf = true) (hk : (Lit.int .i64 k).wf = true)
    (hK : wpList Try.prog ops Q rest (a.put o.dst (.bool (f t k))) w) : wpList Try.prog ops Q (o :: rest) a w := by
  refine wpList_plain hg fun K' hK' => ?_
  obtain ⟨D, h1, h2, h3⟩ := hown
  obtain ⟨l, hl⟩ := mapP_key ht hk
  obtain ⟨c, hrun, hat⟩ := own_look_bool h1 place_law Try.underlying76 Try.underlying4 (zero_bool w) hl
  rw [h3 t k l hl] at hat
  injection hat with hat
  injection hat with hat
  unfold Oper.wp
  simp [execOp, hop, hm, hx, hrun, Result.andThen]
  exact hK' _ _ (hat ▸ hK)
/-- .. within a fence. -/
theorem in_mapI {F : Fence} {nF : Nat} (hg : o.guard = none) (m x : Operand) (hop : o.op = Op.lookup 101 m x false) (b n : Nat) (f : Int → Bool) (hm : a.eval m = .map (some b)) (hown : MapI w b n f) (i : Int) (hx : a.eval x = .int .i64 i) (hi : (Lit.int .i64 i).wf = true)
    (hK : wpListIn F nF Try.prog ops Q rest (a.put o.dst (.bool (f i))) w) : wpListIn F nF Try.prog ops Q (o :: rest) a w := by
  refine wpListIn_plain hg fun K' hK' => ?_
  obtain ⟨D, h1, h2, h3⟩ := hown
  obtain ⟨c, hrun, hat⟩ := own_look_bool h1 (Maps.int_keyed Try.underlying3) Try.underlying101 Try.underlying4 (zero_bool w) (mapI_key hi)
  rw [h3 i] at hat
  injection hat with hat
  injection hat with hat
  unfold Oper.wpIn
  refine ⟨by simp [Oper.about, hop], ?_⟩
  rw [Oper.semAt_plain F _ _ (by rw [hop]; intro c hc'; cases hc')]
  simp [execOp, hop, hm, hx, hrun, Result.andThen]
  exact hK' _ _ (hat ▸ hK)
/-- A store of true, within a fence. -/
theorem in_putP {F : Fence} {nF : Nat} (hg : o.guard = none) (m x v : Operand) (hop : o.op = Op.mapUpdate 76 m x v) (b n : Nat) (f : Int → Int → Bool) (hm : a.eval m = .map (some b)) (hown : MapP w b n f) (hn : n < maxLen)
    (t k : Int) (hx : a.eval x = .agg #[.int .i64 t, .int .i64 k]) (hv : a.eval v = .bool true) (ht : (Lit.int .i64 t).wf = true) (hk : (Lit.int .i64 k).wf = true)
    (hK : ∀ w', MapP w' b (n + 1) (fun i j => f i j || (decide (i = t) && decide (j = k))) → w.grownBy w' (some b) → wpListIn F nF Try.prog ops Q rest (a.put o.dst undef) w') : wpListIn F nF Try.prog ops Q (o :: rest) a w := by
  obtain ⟨D, h1, h2, h3⟩ := hown
  obtain ⟨l, hl⟩ := mapP_key ht hk
  obtain ⟨h4, h5⟩ := mapP_put h2 h3 hl
  exact wpListIn_mapUpdate_own w hg m x v _ hop _ _ place_law Try.underlying76 _ b n D hm h1 hn _ _ l hx hv hl _ [] (plainElem_bool Try.underlying4 true) (fun w' h6 h7 => hK w' ⟨_, h6, h4, h5⟩ h7)
theorem at_putI (hg : o.guard = none) (m x v : Operand) (hop : o.op = Op.mapUpdate 101 m x v) (b n : Nat) (f : Int → Bool) (hm : a.eval m = .map (some b)) (hown : MapI w b n f) (hn : n < maxLen)
    (i : Int) (hx : a.eval x = .int .i64 i) (hv : a.eval v = .bool true) (hi : (Lit.int .i64 i).wf = true)
    (hK : ∀ w', MapI w' b (n + 1) (fun j => f j || decide (j = i)) → w.grownBy w' (some b) → wpList Try.prog ops Q rest (a.put o.dst undef) w') : wpList Try.prog ops Q (o :: rest) a w := by
  obtain ⟨D, h1, h2, h3⟩ := hown
  obtain ⟨h4, h5⟩ := mapI_put h2 h3 i
  exact wpList_mapUpdate_own w hg m x v _ hop _ _ (Maps.int_keyed Try.underlying3) Try.underlying101 _ b n D hm h1 hn _ _ _ hx hv (mapI_key hi) _ [] (plainElem_bool Try.underlying4 true) (fun w' h6 h7 => hK w' ⟨_, h6, h4, h5⟩ h7)
theorem in_putI {F : Fence} {nF : Nat} (hg : o.guard = none) (m x v : Operand) (hop : o.op = Op.mapUpdate 101 m x v) (b n : Nat) (f : Int → Bool) (hm : a.eval m = .map (some b)) (hown : MapI w b n f) (hn : n < maxLen)
    (i : Int) (hx : a.eval x = .int .i64 i) (hv : a.eval v = .bool true) (hi : (Lit.int .i64 i).wf = true)
    (hK : ∀ w', MapI w' b (n + 1) (fun j => f j || decide (j = i)) → w.grownBy w' (some b) → wpListIn F nF Try.prog ops Q rest (a.put o.dst undef) w') : wpListIn F nF Try.prog ops Q (o :: rest) a w := by
  obtain ⟨D, h1, h2, h3⟩ := hown
  obtain ⟨h4, h5⟩ := mapI_put h2 h3 i
  exact wpListIn_mapUpdate_own w hg m x v _ hop _ _ (Maps.int_keyed Try.underlying3) Try.underlying101 _ b n D hm h1 hn _ _ _ hx hv (mapI_key hi) _ [] (plainElem_bool Try.underlying4 true) (fun w' h6 h7 => hK w' ⟨_, h6, h4, h5⟩ h7)
end
end Go.Proofs.Ytaelfjphgdlbcaa
namespace Go.Proofs.Ytaelfjphgdlbcaa
open Go.RowKit
set_option linter.unusedVariables false
set_option linter.unusedSimpArgs false
open WordM (L)
open OpsM (Ln)

/-- A nil slice has no room. -/
def NilZ (v : Value) : Prop := ∀ n c, v = .slice none n c → c = 0
def NilAt (w : World) (b f : Nat) : Prop := ∀ u, w.cell? ⟨b, f, none⟩ = some u → NilZ u
/-- Each thread's row is so. -/
def ThsN (w : World) (v : Value) : Prop := ∀ nm vi b f n c al vc, v = flv nm vi (.slice (some ⟨b, f, none⟩) n c) vc al → ∀ j, j < n → NilAt w b (f + j)
def lnCs (l : Ln) : List Value := [.int .i64 l.op, .string ⟨l.reg.toArray⟩, .string ⟨l.loc.toArray⟩, .string ⟨l.label.toArray⟩, .int .i64 l.n]
def lnsCs : List Ln → List Value
  | [] => []
  | l :: r => lnCs l ++ lnsCs r
theorem lnsCs_len : ∀ ls : List Ln, (lnsCs ls).length = ls.length * 5
  | [] => rfl
  | l :: r => by
    rw [lnsCs, List.length_append, lnsCs_len r, List.length_cons, Nat.succ_mul, Nat.add_comm]; rfl
theorem lnsCs_app : ∀ a b : List Ln, lnsCs (a ++ b) = lnsCs a ++ lnsCs b
  | [], b => rfl
  | l :: r, b => by rw [List.cons_append, lnsCs, lnsCs, lnsCs_app r b, List.append_assoc]
theorem lnsCs_one : ∀ (ls : List Ln), ∀ u ∈ lnsCs ls, u.oneCell' = true
  | [], u, h => by cases h
  | l :: r, u, h => by
    rcases List.mem_append.1 h with h | h
    · simp only [lnCs, List.mem_cons, List.not_mem_nil, or_false] at h
      rcases h with rfl | rfl | rfl | rfl | rfl <;> rfl
    · exact lnsCs_one r u h
theorem lnsCs_at : ∀ (ls : List Ln) (j i : Nat) (hj : j < ls.length), i < 5 → (lnsCs ls)[j * 5 + i]? = (lnCs ls[j])[i]?
  | [], j, i, hj, _ => absurd hj (Nat.not_lt_zero j)
  | l :: r, 0, i, hj, hi => by
    rw [lnsCs, Nat.zero_mul, Nat.zero_add, List.getElem?_append_left (by simpa [lnCs] using hi)]; rfl
  | l :: r, j + 1, i, hj, hi => by
    have hl : (lnCs l).length = 5 := rfl
    rw [lnsCs, List.getElem?_append_right (by rw [hl]; omega), hl, show (j + 1) * 5 + i - 5 = j * 5 + i by omega, lnsCs_at r j i (by simpa using hj) hi]; rfl
/-- The cells of lines in memory are the lines' cells. -/
theorem cells_of_lns {w : World} {b f : Nat} {ls : List Ln} (h : ∀ j (hj : j < ls.length), LnAt w b (f + j * 5) ls[j]) : ∀ (j : Nat) (u : Value), (lnsCs ls)[j]? = some u → w.cell? ⟨b, f + j, none⟩ = some u := by
  intro j u hu
  have hj : j < ls.length * 5 := by
    rw [← lnsCs_len]
    exact (List.getElem?_eq_some_iff.1 hu).1
  have e : j = j / 5 * 5 + j % 5 := by omega
  have h1 : j / 5 < ls.length := by omega
  have h2 : j % 5 < 5 := by omega
  rw [e, lnsCs_at ls (j / 5) (j % 5) h1 h2] at hu
  obtain ⟨c0, c1, c2, c3, c4⟩ := h (j / 5) h1
  rw [e]
  generalize j % 5 = i at *
  generalize j / 5 = q at *
  have e0 : f + (q * 5 + i) = f + q * 5 + i := by omega
  rw [e0]
  rcases (show i = 0 ∨ i = 1 ∨ i = 2 ∨ i = 3 ∨ i = 4 by omega) with rfl | rfl | rfl | rfl | rfl
  · injection hu with hu; subst hu; exact c0
  · injection hu with hu; subst hu; exact c1
  · injection hu with hu; subst hu; exact c2
  · injection hu with hu; subst hu; exact c3
  · injection hu with hu; subst hu; exact c4
/-- A row of the call's own that holds lines' cells reads as the lines. -/
theorem lns_of_own {w : World} {base B : Nat} {T : TypeId} {v : Value} {ls : List Ln} (h : w.ownsRow base T 5 v ls.length (lnsCs ls)) (hB : w.heap.size ≤ B) : Lns B w v ls := by
  rcases id h.2 with ⟨rfl, h0⟩ | ⟨g, cap, cur, rfl, hbg, hg, hnc, hcm, hcs, htake⟩
  · exact ⟨none, 0, by rw [h0], by omega, by decide, fun k => absurd k (by omega)⟩
  · refine ⟨_, cap, rfl, hnc, hcm, fun _ => ⟨g, 0, rfl, ?_, fun j hj => ?_⟩⟩
    · have := (Array.getElem?_eq_some_iff.1 hg).1; omega
    · have hc : ∀ i, i < 5 → w.cell? ⟨g, 0 + j * 5 + i, none⟩ = (lnCs ls[j])[i]? := fun i hi => by
        rw [Nat.zero_add, h.cellAt (j * 5 + i) (by omega), lnsCs_at ls j i hj hi]
      exact ⟨hc 0 (by omega), hc 1 (by omega), hc 2 (by omega), hc 3 (by omega), hc 4 (by omega)⟩
/-- A row of the call's own whose cells are rows of lines reads as threads. -/
theorem ths_of_own {w : World} {base B : Nat} {T : TypeId} {v : Value} {vs : List Value} {ts : List (List Ln)} (h : w.ownsRow base T 1 v ts.length vs) (hB : w.heap.size ≤ B)
    (hl : ∀ j (hj : j < ts.length), ∃ u, vs[j]? = some u ∧ Lns B w u ts[j]) : Ths B w v ts := by
  rcases id h.2 with ⟨rfl, h0⟩ | ⟨g, cap, cur, rfl, hbg, hg, hnc, hcm, hcs, htake⟩
  · exact ⟨none, 0, by rw [h0], by omega, by decide, fun k => absurd k (by omega)⟩
  · refine ⟨_, cap, rfl, hnc, hcm, fun _ => ⟨g, 0, rfl, ?_, fun j hj => ?_⟩⟩
    · have := (Array.getElem?_eq_some_iff.1 hg).1; omega
    · obtain ⟨u, h1, h2⟩ := hl j hj
      exact ⟨u, by rw [Nat.zero_add, h.cellAt j (by omega)]; exact h1, h2⟩
/-- The cells of threads in memory, as values. -/
theorem cells_of_ths {B : Nat} {w : World} {b f : Nat} {ts : List (List Ln)} (h : ∀ j (hj : j < ts.length), ThAt B w b (f + j) ts[j]) :
    ∃ vs : List Value, vs.length = ts.length ∧ (∀ (j : Nat) (u : Value), vs[j]? = some u → w.cell? ⟨b, f + j, none⟩ = some u) ∧ (∀ u ∈ vs, u.oneCell' = true) ∧ ∀ j (hj : j < ts.length), ∃ u, vs[j]? = some u ∧ Lns B w u ts[j] := by
  refine ⟨(List.range ts.length).map (fun j => (w.cell? ⟨b, f + j, none⟩).getD (.bool false)), by simp, fun j u hu => ?_, fun u hu => ?_, fun j hj => ?_⟩
  · have hj : j < ts.length := by
      have := (List.getElem?_eq_some_iff.1 hu).1
      simpa using this
    obtain ⟨x, h1, h2⟩ := h j hj
    rw [List.getElem?_map, List.getElem?_range hj] at hu
    injection hu with hu
    replace hu : (w.cell? ⟨b, f + j, none⟩).getD (.bool false) = u := hu
    rw [h1] at hu
    rw [h1]
    exact congrArg some hu
  · obtain ⟨j, hj, rfl⟩ := List.mem_map.1 hu
    obtain ⟨x, h1, A, c, rfl, _⟩ := h j (List.mem_range.1 hj)
    rw [h1]; rfl
  · obtain ⟨x, h1, h2⟩ := h j hj
    refine ⟨x, ?_, h2⟩
    rw [List.getElem?_map, List.getElem?_range hj]
    show some ((w.cell? ⟨b, f + j, none⟩).getD (.bool false)) = some x
    rw [h1]; rfl
end Go.Proofs.Ytaelfjphgdlbcaa
