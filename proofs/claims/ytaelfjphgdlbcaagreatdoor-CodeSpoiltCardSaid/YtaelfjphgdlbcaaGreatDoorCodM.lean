/-
  PLAIN MATHEMATICS OF LAYER 7: programs as plain steps.
-/
import Derived.Test.YtaelfjphgdlbcaaGreatDoorLms
namespace Go.Proofs.YtaelfjphgdlbcaaGreatDoor.CodM
open WordM (L)
open OpsM (Ln)
open VM (Fl)
set_option linter.unusedVariables false
set_option linter.unusedSimpArgs false

/-- A step. -/
structure St where
  op : Int
  reg : Int
  loc : Int
  n : Int
  to : Int
theorem St.same {a b : St} (h0 : a.op = b.op) (h1 : a.reg = b.reg) (h2 : a.loc = b.loc) (h3 : a.n = b.n) (h4 : a.to = b.to) : a = b := by
  cases a; cases b; simp_all
/-- A code. -/
structure Pg where
  init : List Int
  ths : List (List St)
def hasS (x : Ln) : Bool := !(x.op == 11)
def cnt (ls : List Ln) : Nat := (ls.filter hasS).length
theorem cnt_take (ls : List Ln) (k : Nat) (h : k < ls.length) : cnt (ls.take (k + 1)) = cnt (ls.take k) + if hasS ls[k] then 1 else 0 := by
  unfold cnt
  rw [List.take_succ_eq_append_getElem h, List.filter_append, List.length_append]
  cases c : hasS ls[k]
  · rw [List.filter_cons_of_neg (by simp [c])]; rfl
  · rw [List.filter_cons_of_pos c]; rfl
theorem cnt_le (ls : List Ln) (k : Nat) : cnt (ls.take k) ≤ k := Nat.le_trans (List.length_filter_le _ _) (List.length_take_le _ _)
theorem cnt_mono (ls : List Ln) {i k : Nat} (h : i ≤ k) : cnt (ls.take i) ≤ cnt (ls.take k) := by
  have : ls.take i = (ls.take k).take i := by rw [List.take_take, Nat.min_eq_left h]
  rw [this]
  exact ((List.take_sublist i (ls.take k)).filter hasS).length_le
/-- The first place at which p holds; -1, if it does nowhere. -/
def posI {A : Type} (p : A → Bool) (l : List A) : Int := match l.findIdx? p with | some k => (k : Int) | none => -1
def pos0 {A : Type} (p : A → Bool) (l : List A) : Nat := (l.findIdx? p).getD 0
theorem posI_hit {A : Type} {p : A → Bool} {l : List A} {k : Nat} (hk : k < l.length) (hall : ∀ j (h : j < l.length), j < k → p l[j] = false) (h : p l[k] = true) : posI p l = (k : Int) := by
  have : l.findIdx? p = some k := by
    rw [List.findIdx?_eq_some_iff_getElem]
    exact ⟨hk, h, fun j hj => by simp [hall j (by omega) hj]⟩
  unfold posI; rw [this]
theorem posI_none {A : Type} {p : A → Bool} {l : List A} (hall : ∀ j (h : j < l.length), p l[j] = false) : posI p l = -1 := by
  have : l.findIdx? p = none := by
    rw [List.findIdx?_eq_none_iff]
    intro x hx
    obtain ⟨j, hj, rfl⟩ := List.mem_iff_getElem.1 hx
    exact hall j hj
  unfold posI; rw [this]
theorem pos0_hit {A : Type} {p : A → Bool} {l : List A} {k : Nat} (hk : k < l.length) (hall : ∀ j (h : j < l.length), j < k → p l[j] = false) (h : p l[k] = true) : pos0 p l = k := by
  have : l.findIdx? p = some k := by
    rw [List.findIdx?_eq_some_iff_getElem]
    exact ⟨hk, h, fun j hj => by simp [hall j (by omega) hj]⟩
  unfold pos0; rw [this]; rfl
theorem pos0_none {A : Type} {p : A → Bool} {l : List A} (hall : ∀ j (h : j < l.length), p l[j] = false) : pos0 p l = 0 := by
  have : l.findIdx? p = none := by
    rw [List.findIdx?_eq_none_iff]
    intro x hx
    obtain ⟨j, hj, rfl⟩ := List.mem_iff_getElem.1 hx
    exact hall j hj
  unfold pos0; rw [this]; rfl
theorem pos_max {A : Type} (p : A → Bool) (l : List A) : max (posI p l) 0 = (pos0 p l : Int) := by
  unfold posI pos0
  cases l.findIdx? p with
  | none => rfl
  | some k => simp
theorem pos0_le {A : Type} (p : A → Bool) (l : List A) : pos0 p l ≤ l.length := by
  unfold pos0
  cases e : l.findIdx? p with
  | none => simp
  | some k =>
    rw [List.findIdx?_eq_some_iff_getElem] at e
    simp; exact Nat.le_of_lt e.1
theorem posI_bd {A : Type} (p : A → Bool) (l : List A) : -1 ≤ posI p l ∧ posI p l ≤ l.length := by
  unfold posI
  cases e : l.findIdx? p with
  | none =>
    show (-1 : Int) ≤ -1 ∧ (-1 : Int) ≤ l.length
    omega
  | some k =>
    rw [List.findIdx?_eq_some_iff_getElem] at e
    obtain ⟨h, _⟩ := e
    show -1 ≤ (k : Int) ∧ (k : Int) ≤ l.length
    omega
theorem pos0_at {A : Type} {p : A → Bool} {l : List A} {k : Nat} (hk : k < l.length) (h : p l[k] = true) : ∃ h : pos0 p l < l.length, p l[pos0 p l] = true ∧ pos0 p l ≤ k := by
  unfold pos0
  cases e : l.findIdx? p with
  | none =>
    rw [List.findIdx?_eq_none_iff] at e
    exact absurd (e _ (List.getElem_mem hk)) (by simp [h])
  | some j =>
    rw [List.findIdx?_eq_some_iff_getElem] at e
    obtain ⟨h1, h2, h3⟩ := e
    refine ⟨h1, h2, ?_⟩
    simp only [Option.getD_some]
    by_cases c : j ≤ k
    · exact c
    · exact absurd h (h3 k (by omega))
/-- Is x a label of that name? -/
def isLab (s : L) (x : Ln) : Bool := !(hasS x) && decide (x.label = s)
def regI (r : L) : Int := max (WordM.regNo r) 0
def locN (locs : List L) (s : L) : Nat := pos0 (fun x => decide (x = s)) locs
def toN (ls : List Ln) (s : L) : Nat := cnt (ls.take (pos0 (isLab s) ls))
def stp (ls : List Ln) (locs : List L) (x : Ln) : St := ⟨x.op, regI x.reg, (locN locs x.loc : Int), x.n, (toN ls x.label : Int)⟩
def thrS (locs : List L) (ls : List Ln) : List St := (ls.filter hasS).map (stp ls locs)
/-- What the location has at first. -/
def fstN (cs : List (L × Int)) (s : L) : Int := match cs.find? (fun c => decide (c.1 = s)) with | some c => c.2 | none => 0
theorem fstN_hit {cs : List (L × Int)} {s : L} {k : Nat} (hk : k < cs.length) (hall : ∀ j (h : j < cs.length), j < k → ¬ cs[j].1 = s) (h : cs[k].1 = s) : fstN cs s = cs[k].2 := by
  have : cs.find? (fun c => decide (c.1 = s)) = some cs[k] := by
    rw [List.find?_eq_some_iff_getElem]
    exact ⟨by simp [h], k, hk, rfl, fun j hj => by simp [hall j (by omega) hj]⟩
  unfold fstN; rw [this]
theorem fstN_none {cs : List (L × Int)} {s : L} (hall : ∀ j (h : j < cs.length), ¬ cs[j].1 = s) : fstN cs s = 0 := by
  have : cs.find? (fun c => decide (c.1 = s)) = none := by
    rw [List.find?_eq_none]
    intro x hx
    obtain ⟨j, hj, rfl⟩ := List.mem_iff_getElem.1 hx
    simp [hall j hj]
  unfold fstN; rw [this]
def codP (F : Fl) : Pg := if VM.right F then ⟨(VM.locsR F).map (fstN F.init), F.ths.map (thrS (VM.locsR F))⟩ else ⟨[], []⟩
def codE (F : Fl) : Int := if VM.right F then 0 else 1
/-! Lines and steps. -/
def atI (F : Fl) (t k : Int) : Int := if 0 ≤ t ∧ t < F.ths.length ∧ 0 ≤ k ∧ k ≤ (F.ths.getD t.toNat []).length then (cnt ((F.ths.getD t.toNat []).take k.toNat) : Int) else -1
/-- Is the k-th line the one of step a? -/
def isLn (ls : List Ln) (a : Int) (k : Nat) : Bool := match ls[k]? with | some x => hasS x && decide ((cnt (ls.take k) : Int) = a) | none => false
def lnP (ls : List Ln) (a : Int) : Int := match (List.range ls.length).find? (isLn ls a) with | some k => (k : Int) | none => -1
theorem lnP_hit {ls : List Ln} {a : Int} {k : Nat} (hk : k < ls.length) (h1 : hasS ls[k] = true) (h2 : (cnt (ls.take k) : Int) = a) : lnP ls a = (k : Int) := by
  have he : isLn ls a k = true := by unfold isLn; rw [List.getElem?_eq_getElem hk]; simp [h1, h2]
  have : (List.range ls.length).find? (isLn ls a) = some k := by
    rw [List.find?_eq_some_iff_getElem]
    refine ⟨he, k, by simpa using hk, by simp, fun j hj => ?_⟩
    have hjl : j < ls.length := by omega
    simp only [List.getElem_range]
    unfold isLn
    rw [List.getElem?_eq_getElem hjl]
    cases c : hasS ls[j]
    · simp [c]
    · have e1 := cnt_take ls j hjl
      rw [c] at e1
      have e2 := cnt_mono ls (show j + 1 ≤ k by omega)
      have : ¬ (cnt (ls.take j) : Int) = a := by simp at e1; omega
      simp [this]
  unfold lnP; rw [this]
theorem lnP_none {ls : List Ln} {a : Int} (h : ∀ k (hk : k < ls.length), hasS ls[k] = true → ¬ (cnt (ls.take k) : Int) = a) : lnP ls a = -1 := by
  have : (List.range ls.length).find? (isLn ls a) = none := by
    rw [List.find?_eq_none]
    intro x hx
    have hx := List.mem_range.1 hx
    unfold isLn
    rw [List.getElem?_eq_getElem hx]
    cases c : hasS ls[x]
    · simp [c]
    · simp [h x hx c]
  unfold lnP; rw [this]
theorem lnP_over {ls : List Ln} {a : Int} (h : a < 0 ∨ (cnt ls : Int) ≤ a) : lnP ls a = -1 := by
  refine lnP_none fun k hk c e => ?_
  have e1 := cnt_take ls k hk
  rw [c] at e1
  have e2 := cnt_mono ls (show k + 1 ≤ ls.length by omega)
  rw [List.take_length] at e2
  simp at e1
  omega
def lineI (F : Fl) (t a : Int) : Int := if 0 ≤ t ∧ t < F.ths.length then lnP (F.ths.getD t.toNat []) a else -1
/-! Right codes. -/
def hReg (o : Int) : Bool := decide (o = 1) || (decide (o = 2) || (decide (o = 3) || (decide (o = 5) || decide (o = 7))))
def hLoc (o : Int) : Bool := decide (o = 2) || (decide (o = 3) || (decide (o = 4) || decide (o = 5)))
def hNum (o : Int) : Bool := decide (o = 1) || (decide (o = 4) || decide (o = 7))
def hTo (o : Int) : Bool := decide (8 ≤ o)
def zOr (has : Bool) (n least most : Int) : Bool := if has then decide (least ≤ n) && decide (n ≤ most) else decide (n = 0)
def rightS (many : Nat) (len : Nat) (at' : Nat) (s : St) : Bool :=
  (decide (1 ≤ s.op) && decide (s.op ≤ 10)) && (zOr (hReg s.op) s.reg 0 3 && (zOr (hLoc s.op) s.loc 0 ((many : Int) - 1) && ((hNum s.op || decide (s.n = 0)) && zOr (hTo s.op) s.to ((at' : Int) + 1) (len : Int))))
def rightT (many : Nat) (ss : List St) : Bool := decide (ss.length ≤ 80) && (List.range ss.length).all fun k => match ss[k]? with | some s => rightS many ss.length k s | none => false
def rightP (p : Pg) : Bool := decide (p.init.length ≤ 4) && (decide (1 ≤ p.ths.length) && decide (p.ths.length ≤ 3)) && p.ths.all (rightT p.init.length)
theorem rightT_all {many : Nat} {ss : List St} (h : ss.length ≤ 80) (hall : ∀ k (hk : k < ss.length), rightS many ss.length k ss[k] = true) : rightT many ss = true := by
  unfold rightT
  simp only [Bool.and_eq_true, decide_eq_true_eq, List.all_eq_true, List.mem_range]
  exact ⟨h, fun k hk => by rw [List.getElem?_eq_getElem hk]; exact hall k hk⟩
theorem rightT_many {many : Nat} {ss : List St} (h : 80 < ss.length) : rightT many ss = false := by
  unfold rightT; simp; intro h2; omega
theorem rightT_no {many : Nat} {ss : List St} {k : Nat} (hk : k < ss.length) (h : rightS many ss.length k ss[k] = false) : rightT many ss = false := by
  unfold rightT
  rw [Bool.and_eq_false_iff]; right
  rw [List.all_eq_false]
  exact ⟨k, List.mem_range.2 hk, by rw [List.getElem?_eq_getElem hk]; simp [h]⟩
theorem rightT_at {many : Nat} {ss : List St} (h : rightT many ss = true) : ss.length ≤ 80 ∧ ∀ k (hk : k < ss.length), rightS many ss.length k ss[k] = true := by
  unfold rightT at h
  simp only [Bool.and_eq_true, decide_eq_true_eq, List.all_eq_true, List.mem_range] at h
  refine ⟨h.1, fun k hk => ?_⟩
  have := h.2 k hk
  rwa [List.getElem?_eq_getElem hk] at this
end Go.Proofs.YtaelfjphgdlbcaaGreatDoor.CodM
