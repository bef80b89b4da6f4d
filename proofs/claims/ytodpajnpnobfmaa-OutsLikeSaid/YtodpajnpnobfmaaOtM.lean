/-
  ENDS, IN SETS: mathematics. How rows of numbers are held against one another, ends, and what sets of them are. Of no program.
-/
import Derived.Test.YtodpajnpnobfmaaKit
namespace Go.Proofs.Ytodpajnpnobfmaa
set_option linter.unusedVariables false
set_option linter.unusedSimpArgs false
namespace OtM

abbrev Ot := List Int × List Int
/-- How a row of numbers is held against another one. -/
def cmpI : List Int → List Int → Int
  | [], [] => 0
  | [], _ :: _ => -1
  | _ :: _, [] => 1
  | x :: xs, y :: ys => if x = y then cmpI xs ys else if x < y then -1 else 1
theorem cmpI_range : ∀ a b, cmpI a b = -1 ∨ cmpI a b = 0 ∨ cmpI a b = 1
  | [], [] => by simp [cmpI]
  | [], _ :: _ => by simp [cmpI]
  | _ :: _, [] => by simp [cmpI]
  | x :: xs, y :: ys => by
    unfold cmpI; split
    · exact cmpI_range xs ys
    · split <;> simp
theorem cmpI_zero : ∀ a b, cmpI a b = 0 ↔ a = b
  | [], [] => by simp [cmpI]
  | [], _ :: _ => by simp [cmpI]
  | _ :: _, [] => by simp [cmpI]
  | x :: xs, y :: ys => by
    unfold cmpI; split
    · rename_i h; subst h; rw [cmpI_zero xs ys]; simp
    · rename_i h; split <;> simp [h]
theorem cmpI_neg : ∀ a b, cmpI b a = - cmpI a b
  | [], [] => by simp [cmpI]
  | [], _ :: _ => by simp [cmpI]
  | _ :: _, [] => by simp [cmpI]
  | x :: xs, y :: ys => by
    unfold cmpI
    by_cases h : x = y
    · subst h; rw [if_pos rfl, if_pos rfl]; exact cmpI_neg xs ys
    · rw [if_neg h, if_neg (Ne.symm h)]
      by_cases g : x < y
      · rw [if_pos g, if_neg (by omega)]; rfl
      · rw [if_neg g, if_pos (by omega)]
theorem cmpI_trans : ∀ a b c, cmpI a b < 0 → cmpI b c < 0 → cmpI a c < 0
  | [], b, [], h1, h2 => by have := cmpI_neg b []; omega
  | [], _, _ :: _, _, _ => by simp [cmpI]
  | _ :: _, [], _, h, _ => by simp [cmpI] at h
  | _ :: _, _ :: _, [], _, h => by simp [cmpI] at h
  | x :: xs, y :: ys, z :: zs, h1, h2 => by
    unfold cmpI at h1 h2 ⊢
    by_cases e1 : x = y
    · subst e1
      rw [if_pos rfl] at h1
      by_cases e2 : x = z
      · rw [if_pos e2] at h2 ⊢; exact cmpI_trans xs ys zs h1 h2
      · rw [if_neg e2] at h2 ⊢; exact h2
    · rw [if_neg e1] at h1
      by_cases g1 : x < y
      · by_cases e2 : y = z
        · subst e2; rw [if_neg e1, if_pos g1]; decide
        · rw [if_neg e2] at h2
          by_cases g2 : y < z
          · rw [if_neg (by omega), if_pos (by omega)]; decide
          · rw [if_neg g2] at h2; omega
      · rw [if_neg g1] at h1; omega
theorem cmpI_same (x : Int) (a b : List Int) : cmpI (x :: a) (x :: b) = cmpI a b := by rw [cmpI, if_pos rfl]
/-- The first k are alike: the rest decides. -/
theorem cmpI_step {a b : List Int} {k : Nat} (h1 : k < a.length) (h2 : k < b.length) (e : a[k] = b[k]) : cmpI (a.drop k) (b.drop k) = cmpI (a.drop (k + 1)) (b.drop (k + 1)) := by
  rw [List.drop_eq_getElem_cons h1, List.drop_eq_getElem_cons h2, e, cmpI_same]
theorem cmpI_apart {a b : List Int} {k : Nat} (h1 : k < a.length) (h2 : k < b.length) (e : ¬ a[k] = b[k]) : cmpI (a.drop k) (b.drop k) = if a[k] < b[k] then -1 else 1 := by
  rw [List.drop_eq_getElem_cons h1, List.drop_eq_getElem_cons h2, cmpI, if_neg e]
theorem cmpI_long {a b : List Int} {k : Nat} (h1 : k < a.length) (h2 : b.length ≤ k) : cmpI (a.drop k) (b.drop k) = 1 := by
  rw [List.drop_eq_getElem_cons h1, List.drop_of_length_le h2, cmpI]
theorem cmpI_short {a b : List Int} {k : Nat} (h1 : a.length ≤ k) (h2 : k < b.length) : cmpI (a.drop k) (b.drop k) = -1 := by
  rw [List.drop_eq_getElem_cons h2, List.drop_of_length_le h1, cmpI]
theorem cmpI_end {a b : List Int} {k : Nat} (h1 : a.length ≤ k) (h2 : b.length ≤ k) : cmpI (a.drop k) (b.drop k) = 0 := by
  rw [List.drop_of_length_le h2, List.drop_of_length_le h1, cmpI]
/-- How an end is held against another one. -/
def cmpO (a b : Ot) : Int := if cmpI a.1 b.1 = 0 then cmpI a.2 b.2 else cmpI a.1 b.1
theorem cmpO_range (a b : Ot) : cmpO a b = -1 ∨ cmpO a b = 0 ∨ cmpO a b = 1 := by
  unfold cmpO; split
  · exact cmpI_range _ _
  · exact cmpI_range _ _
theorem cmpO_zero (a b : Ot) : cmpO a b = 0 ↔ a = b := by
  unfold cmpO; split
  · rename_i h; rw [cmpI_zero] at h ⊢
    constructor
    · intro g; exact Prod.ext h g
    · intro g; rw [g]
  · rename_i h
    constructor
    · intro g; exact absurd g h
    · intro g; subst g; exact absurd ((cmpI_zero _ _).2 rfl) h
theorem cmpO_neg (a b : Ot) : cmpO b a = - cmpO a b := by
  unfold cmpO
  rw [cmpI_neg a.1 b.1, cmpI_neg a.2 b.2]
  by_cases h : cmpI a.1 b.1 = 0
  · rw [if_pos h, if_pos (by omega)]
  · rw [if_neg h, if_neg (by omega)]
def Lt (a b : Ot) : Prop := cmpO a b < 0
instance (a b : Ot) : Decidable (Lt a b) := inferInstanceAs (Decidable (cmpO a b < 0))
theorem Lt.trans {a b c : Ot} (h1 : Lt a b) (h2 : Lt b c) : Lt a c := by
  unfold Lt cmpO at *
  by_cases e1 : cmpI a.1 b.1 = 0
  · rw [if_pos e1] at h1
    rw [cmpI_zero] at e1
    rw [e1]
    by_cases e2 : cmpI b.1 c.1 = 0
    · rw [if_pos e2] at h2 ⊢; exact cmpI_trans _ _ _ h1 h2
    · rw [if_neg e2] at h2 ⊢; exact h2
  · rw [if_neg e1] at h1
    by_cases e2 : cmpI b.1 c.1 = 0
    · rw [cmpI_zero] at e2
      rw [← e2, if_neg e1]; exact h1
    · rw [if_neg e2] at h2
      have := cmpI_trans _ _ _ h1 h2
      rw [if_neg (by omega)]; exact this
theorem Lt.irrefl (a : Ot) : ¬ Lt a a := by unfold Lt; rw [(cmpO_zero a a).2 rfl]; decide
theorem Lt.asymm {a b : Ot} (h : Lt a b) : ¬ Lt b a := fun g => Lt.irrefl a (h.trans g)
theorem Lt.ne {a b : Ot} (h : Lt a b) : a ≠ b := fun e => by subst e; exact Lt.irrefl _ h
theorem tri (a b : Ot) : Lt a b ∨ a = b ∨ Lt b a := by
  unfold Lt
  rw [cmpO_neg a b, ← cmpO_zero]
  rcases cmpO_range a b with h | h | h <;> rw [h] <;> decide
theorem lt_of_nlt {a b : Ot} (h : ¬ Lt a b) (hn : a ≠ b) : Lt b a := by
  rcases tri a b with k | k | k
  · exact absurd k h
  · exact absurd k hn
  · exact k
/-- Sets: each is ahead of all behind it. -/
abbrev Srt (l : List Ot) : Prop := l.Pairwise Lt
theorem Srt.at {l : List Ot} (h : Srt l) {i j : Nat} (hj : j < l.length) (hij : i < j) : Lt (l[i]'(by omega)) l[j] := List.pairwise_iff_getElem.1 h i j (by omega) hj hij
theorem Srt.ahead {l : List Ot} (h : Srt l) {i j : Nat} (hj : j < l.length) (hi : i < l.length) (hl : Lt l[i] l[j]) : i < j := by
  rcases Nat.lt_trichotomy i j with k | k | k
  · exact k
  · subst k; exact absurd hl (Lt.irrefl _)
  · exact absurd (h.at hi k) hl.asymm
/-- How many of them are ahead of o. -/
def pos (l : List Ot) (o : Ot) : Nat := l.countP fun x => decide (Lt x o)
theorem pos_le (l : List Ot) (o : Ot) : pos l o ≤ l.length := List.countP_le_length
theorem pos_cons (x : Ot) (l : List Ot) (o : Ot) : pos (x :: l) o = pos l o + if Lt x o then 1 else 0 := by
  unfold pos; rw [List.countP_cons]; simp
theorem pos_zero {l : List Ot} {o : Ot} (h : ∀ x ∈ l, ¬ Lt x o) : pos l o = 0 := by
  unfold pos; rw [List.countP_eq_zero]; intro x hx; simpa using h x hx
/-- In a set those ahead of o are the first ones. -/
theorem pos_at : ∀ {l : List Ot} (o : Ot), Srt l → ∀ (i : Nat) (hi : i < l.length), Lt l[i] o ↔ i < pos l o
  | [], o, _, i, hi => absurd hi (Nat.not_lt_zero _)
  | x :: l, o, h, 0, hi => by
    obtain ⟨h1, h2⟩ := List.pairwise_cons.1 h
    rw [pos_cons]
    show Lt x o ↔ _
    by_cases g : Lt x o
    · simp [g]
    · rw [pos_zero (fun y hy k => g ((h1 y hy).trans k))]; simp [g]
  | x :: l, o, h, i + 1, hi => by
    obtain ⟨h1, h2⟩ := List.pairwise_cons.1 h
    rw [pos_cons]
    have hi' : i < l.length := by simpa using hi
    have ih := pos_at o h2 i hi'
    show Lt l[i] o ↔ _
    rw [ih]
    by_cases g : Lt x o
    · simp [g]
    · rw [pos_zero (fun y hy k => g ((h1 y hy).trans k))]; simp [g]
theorem has_at {l : List Ot} {o : Ot} (h : Srt l) : o ∈ l ↔ ∃ hp : pos l o < l.length, l[pos l o] = o := by
  constructor
  · intro hm
    obtain ⟨i, hi, e⟩ := List.mem_iff_getElem.1 hm
    have h1 : ¬ i < pos l o := by rw [← pos_at o h i hi, e]; exact Lt.irrefl _
    have h2 : ¬ pos l o < i := fun k => by
      have h3 := h.at hi k
      rw [e] at h3
      exact Nat.lt_irrefl _ ((pos_at o h _ (by omega)).1 h3)
    have h3 : i = pos l o := by omega
    subst h3; exact ⟨hi, e⟩
  · rintro ⟨hp, e⟩; rw [← e]; exact List.getElem_mem _
/-- A set with o put to it. -/
def putO (l : List Ot) (o : Ot) : List Ot := if o ∈ l then l else l.take (pos l o) ++ o :: l.drop (pos l o)
theorem putO_mem (l : List Ot) (o x : Ot) : x ∈ putO l o ↔ x = o ∨ x ∈ l := by
  unfold putO; split
  · rename_i h; constructor
    · exact Or.inr
    · rintro (rfl | k)
      · exact h
      · exact k
  · rw [List.mem_append, List.mem_cons]
    conv => rhs; rw [← List.take_append_drop (pos l o) l, List.mem_append]
    constructor
    · rintro (h | h | h)
      · exact .inr (.inl h)
      · exact .inl h
      · exact .inr (.inr h)
    · rintro (h | h | h)
      · exact .inr (.inl h)
      · exact .inl h
      · exact .inr (.inr h)
theorem putO_srt {l : List Ot} (h : Srt l) (o : Ot) : Srt (putO l o) := by
  unfold putO; split
  · exact h
  · rename_i hn
    have ht : Srt (l.take (pos l o)) := h.sublist (List.take_sublist _ _)
    have hd : Srt (l.drop (pos l o)) := h.sublist (List.drop_sublist _ _)
    have h1 : ∀ x ∈ l.take (pos l o), Lt x o := fun x hx => by
      obtain ⟨i, hi, e⟩ := List.mem_iff_getElem.1 hx
      rw [List.length_take] at hi
      rw [List.getElem_take] at e
      rw [← e]; exact (pos_at o h i (by omega)).2 (by omega)
    have h2 : ∀ x ∈ l.drop (pos l o), Lt o x := fun x hx => by
      obtain ⟨i, hi, e⟩ := List.mem_iff_getElem.1 hx
      rw [List.length_drop] at hi
      rw [List.getElem_drop] at e
      refine lt_of_nlt ?_ (fun k => hn (by rw [← k, ← e]; exact List.getElem_mem _))
      rw [← e]; intro k
      have := (pos_at o h (pos l o + i) (by omega)).1 k
      omega
    refine List.pairwise_append.2 ⟨ht, List.pairwise_cons.2 ⟨h2, hd⟩, fun x hx y hy => ?_⟩
    rcases List.mem_cons.1 hy with rfl | hy
    · exact h1 x hx
    · exact (h1 x hx).trans (h2 y hy)
theorem putO_len (l : List Ot) (o : Ot) : (putO l o).length = l.length + if o ∈ l then 0 else 1 := by
  unfold putO; split
  · rfl
  · rw [List.length_append, List.length_cons, ← Nat.add_assoc, ← List.length_append, List.take_append_drop]
/-- Two sets with the same in them are one. -/
theorem srt_ext : ∀ {a b : List Ot}, Srt a → Srt b → (∀ x, x ∈ a ↔ x ∈ b) → a = b
  | [], [], _, _, _ => rfl
  | [], y :: b, _, _, h => by have := (h y).2 (List.mem_cons_self ..); cases this
  | x :: a, [], _, _, h => by have := (h x).1 (List.mem_cons_self ..); cases this
  | x :: a, y :: b, h1, h2, h => by
    obtain ⟨p1, p2⟩ := List.pairwise_cons.1 h1
    obtain ⟨q1, q2⟩ := List.pairwise_cons.1 h2
    have e : x = y := by
      rcases List.mem_cons.1 ((h x).1 (List.mem_cons_self ..)) with k | k
      · exact k
      · rcases List.mem_cons.1 ((h y).2 (List.mem_cons_self ..)) with m | m
        · exact m.symm
        · exact absurd (q1 x k) (p1 y m).asymm
    subst e
    rw [srt_ext p2 q2 fun z => ?_]
    constructor
    · intro hz
      rcases List.mem_cons.1 ((h z).1 (List.mem_cons_of_mem _ hz)) with k | k
      · subst k; exact absurd (p1 z hz) (Lt.irrefl _)
      · exact k
    · intro hz
      rcases List.mem_cons.1 ((h z).2 (List.mem_cons_of_mem _ hz)) with k | k
      · subst k; exact absurd (q1 z hz) (Lt.irrefl _)
      · exact k
/-- The set of those of a row. -/
def ofO (l : List Ot) : List Ot := l.foldl putO []
theorem foldl_put : ∀ (l s : List Ot), Srt s → Srt (l.foldl putO s) ∧ ∀ x, x ∈ l.foldl putO s ↔ x ∈ s ∨ x ∈ l
  | [], s, h => ⟨h, fun x => by simp⟩
  | o :: l, s, h => by
    obtain ⟨h1, h2⟩ := foldl_put l (putO s o) (putO_srt h o)
    refine ⟨h1, fun x => ?_⟩
    rw [List.foldl_cons, h2, putO_mem, List.mem_cons]
    constructor
    · rintro ((h | h) | h)
      · exact .inr (.inl h)
      · exact .inl h
      · exact .inr (.inr h)
    · rintro (h | h | h)
      · exact .inl (.inr h)
      · exact .inl (.inl h)
      · exact .inr h
theorem ofO_srt (l : List Ot) : Srt (ofO l) := (foldl_put l [] List.Pairwise.nil).1
theorem ofO_mem (l : List Ot) (x : Ot) : x ∈ ofO l ↔ x ∈ l := by rw [ofO, (foldl_put l [] List.Pairwise.nil).2]; simp
theorem ofO_eq {l s : List Ot} (h1 : Srt s) (h2 : ∀ x, x ∈ s ↔ x ∈ l) : s = ofO l := srt_ext h1 (ofO_srt l) fun x => by rw [h2, ofO_mem]
theorem foldl_put_len : ∀ (l s : List Ot), (l.foldl putO s).length ≤ s.length + l.length
  | [], s => by simp
  | o :: l, s => by
    have := foldl_put_len l (putO s o)
    rw [putO_len] at this
    rw [List.foldl_cons, List.length_cons]
    split at this <;> omega
theorem ofO_len (l : List Ot) : (ofO l).length ≤ l.length := by have := foldl_put_len l []; rw [List.length_nil, Nat.zero_add] at this; exact this
theorem ofO_self {l : List Ot} (h : Srt l) : ofO l = l := (ofO_eq h fun _ => Iff.rfl).symm
/-- The set of those of a that are not in b. -/
def minO (a b : List Ot) : List Ot := a.filter fun x => decide (x ∉ b)
theorem minO_srt {a : List Ot} (h : Srt a) (b : List Ot) : Srt (minO a b) := h.sublist List.filter_sublist
theorem minO_mem (a b : List Ot) (x : Ot) : x ∈ minO a b ↔ x ∈ a ∧ x ∉ b := by unfold minO; rw [List.mem_filter]; simp
theorem minO_len (a b : List Ot) : (minO a b).length ≤ a.length := List.length_filter_le _ _
theorem minO_nil (a : List Ot) : minO a [] = a := by unfold minO; rw [List.filter_eq_self]; simp
theorem minO_self (a : List Ot) : minO a a = [] := by unfold minO; rw [List.filter_eq_nil_iff]; simp
theorem minO_like {a b : List Ot} (h1 : Srt a) (h2 : Srt b) : a = b ↔ (minO a b).length = 0 ∧ (minO b a).length = 0 := by
  constructor
  · rintro rfl; rw [minO_self]; exact ⟨rfl, rfl⟩
  · rintro ⟨e1, e2⟩
    have e1 := List.eq_nil_of_length_eq_zero e1
    have e2 := List.eq_nil_of_length_eq_zero e2
    refine srt_ext h1 h2 fun x => ⟨fun hx => ?_, fun hx => ?_⟩
    · by_cases k : x ∈ b
      · exact k
      · have := (minO_mem a b x).2 ⟨hx, k⟩; rw [e1] at this; cases this
    · by_cases k : x ∈ a
      · exact k
      · have := (minO_mem b a x).2 ⟨hx, k⟩; rw [e2] at this; cases this
/-! The document's own way of putting: along the row, ahead of the first one that o is ahead of. -/
def rput (o : Ot) : Bool → List Ot → List Ot
  | d, [] => if d then [] else [o]
  | d, x :: l => let d1 := d || decide (x = o); if !d1 && decide (Lt o x) then o :: x :: rput o true l else x :: rput o d1 l
theorem rput_true (o : Ot) : ∀ l, rput o true l = l
  | [] => rfl
  | x :: l => by simp [rput, rput_true o l]
theorem rput_mem (o : Ot) : ∀ (l : List Ot) (x : Ot), x ∈ rput o false l ↔ x = o ∨ x ∈ l
  | [], x => by simp [rput]
  | y :: l, x => by
    unfold rput
    by_cases e : y = o
    · subst e; simp only [Bool.false_or, decide_true, Bool.not_true, Bool.false_and, if_neg Bool.false_ne_true, rput_true]
      rw [List.mem_cons]; constructor
      · exact Or.inr
      · rintro (h | h)
        · exact .inl h
        · exact h
    · by_cases g : Lt o y
      · simp [e, g, rput_true]
      · simp only [e, g, decide_false, Bool.or_false, Bool.not_false, Bool.and_false, if_neg Bool.false_ne_true, List.mem_cons, rput_mem o l x]
        constructor
        · rintro (h | h | h)
          · exact .inr (.inl h)
          · exact .inl h
          · exact .inr (.inr h)
        · rintro (h | h | h)
          · exact .inr (.inl h)
          · exact .inl h
          · exact .inr (.inr h)
theorem rput_srt (o : Ot) : ∀ {l : List Ot}, Srt l → Srt (rput o false l)
  | [], _ => by simp [rput]
  | y :: l, h => by
    obtain ⟨h1, h2⟩ := List.pairwise_cons.1 h
    unfold rput
    by_cases e : y = o
    · subst e; simpa [rput_true] using h
    · by_cases g : Lt o y
      · simp only [e, g, decide_false, decide_true, Bool.or_false, Bool.not_false, Bool.and_true, if_pos, rput_true]
        refine List.pairwise_cons.2 ⟨fun x hx => ?_, h⟩
        rcases List.mem_cons.1 hx with rfl | hx
        · exact g
        · exact g.trans (h1 x hx)
      · simp only [e, g, decide_false, Bool.or_false, Bool.not_false, Bool.and_false, if_neg Bool.false_ne_true]
        refine List.pairwise_cons.2 ⟨fun x hx => ?_, rput_srt o h2⟩
        rcases (rput_mem o l x).1 hx with rfl | hx
        · exact lt_of_nlt g (Ne.symm e)
        · exact h1 x hx
theorem rput_eq {l : List Ot} (h : Srt l) (o : Ot) : rput o false l = putO l o := srt_ext (rput_srt o h) (putO_srt h o) fun x => by rw [rput_mem, putO_mem]
theorem rput_len (o : Ot) : ∀ (d : Bool) (l : List Ot), (rput o d l).length ≤ l.length + 1
  | d, [] => by cases d <;> simp [rput]
  | d, x :: l => by
    unfold rput; dsimp only; split
    · rw [rput_true]; simp
    · have := rput_len o (d || decide (x = o)) l; simp; omega
end OtM
end Go.Proofs.Ytodpajnpnobfmaa
