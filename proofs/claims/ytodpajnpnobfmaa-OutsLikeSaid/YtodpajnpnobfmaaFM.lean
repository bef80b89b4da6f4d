/-
  PLAIN MATHEMATICS OF LAYER 4: programs, and what is wrong with one first.
-/
import Derived.Test.YtodpajnpnobfmaaVM
import Derived.Test.YtodpajnpnobfmaaAtomM
set_option linter.unusedSimpArgs false
namespace Go.Proofs.Ytodpajnpnobfmaa.VM
open WordM (L)
open OpsM (Ln)
open AtomM (At)
set_option linter.unusedVariables false

structure Fl where
  name : L
  init : List (L × Int)
  ths : List (List Ln)
  cond : List At
  all : Bool

/-- The first place below n where g is not 0. -/
def firstAt (g : Nat → Int) : Nat → Option Nat
  | 0 => none
  | n + 1 => match firstAt g n with | some k => some k | none => if g n = 0 then none else some n
theorem firstAt_none {g : Nat → Int} : ∀ {n : Nat}, firstAt g n = none ↔ ∀ j, j < n → g j = 0
  | 0 => ⟨fun _ j h => absurd h (Nat.not_lt_zero j), fun _ => rfl⟩
  | n + 1 => by
    unfold firstAt
    cases e : firstAt g n with
    | some k => 
      refine ⟨fun h => (by cases h), fun h => ?_⟩
      have := (firstAt_none (g := g) (n := n)).2 (fun j hj => h j (by omega))
      rw [this] at e; cases e
    | none =>
      have hb := (firstAt_none (g := g) (n := n)).1 e
      by_cases hz : g n = 0
      · refine ⟨fun _ j hj => ?_, fun _ => by simp [hz]⟩
        by_cases ej : j = n
        · subst ej; exact hz
        · exact hb j (by omega)
      · exact ⟨fun h => by simp [hz] at h, fun h => absurd (h n (by omega)) hz⟩
theorem firstAt_hit {g : Nat → Int} {k : Nat} (hall : ∀ j, j < k → g j = 0) (h : g k ≠ 0) : ∀ {n : Nat}, k < n → firstAt g n = some k
  | 0, hk => absurd hk (Nat.not_lt_zero k)
  | n + 1, hk => by
    unfold firstAt
    by_cases e : k = n
    · subst e
      rw [firstAt_none.2 hall]; simp [h]
    · rw [firstAt_hit hall h (show k < n by omega)]
theorem firstAt_some {g : Nat → Int} : ∀ {n k : Nat}, firstAt g n = some k → k < n ∧ g k ≠ 0 ∧ ∀ j, j < k → g j = 0
  | 0, k, h => by cases h
  | n + 1, k, h => by
    unfold firstAt at h
    cases e : firstAt g n with
    | some m =>
      rw [e] at h
      obtain rfl := Option.some.inj h
      obtain ⟨a, b, c⟩ := firstAt_some e
      exact ⟨by omega, b, c⟩
    | none =>
      rw [e] at h
      by_cases hz : g n = 0
      · simp [hz] at h
      · simp [hz] at h
        subst h
        exact ⟨by omega, hz, firstAt_none.1 e⟩

/-- What is wrong with the k-th cell; 0, if nothing is. -/
def cellC (cs : List (L × Int)) (k : Nat) : Int :=
  if WordM.nameB (cs.getD k ([], 0)).1 = false then 22 else if 0 < k ∧ (cs.getD k ([], 0)).1 ≤ (cs.getD (k - 1) ([], 0)).1 then 21 else 0
def cellsC (F : Fl) : Int := match firstAt (cellC F.init) F.init.length with | some k => cellC F.init k | none => if F.ths.length < 1 ∨ 3 < F.ths.length then 5 else 0
def frameC (F : Fl) : Int := if WordM.nameB F.name = false then 22 else cellsC F
theorem cellsC_hit {F : Fl} {k : Nat} (hk : k < F.init.length) (hall : ∀ j, j < k → cellC F.init j = 0) (h : cellC F.init k ≠ 0) : cellsC F = cellC F.init k := by
  unfold cellsC; rw [firstAt_hit hall h hk]
theorem cellsC_end {F : Fl} (hall : ∀ j, j < F.init.length → cellC F.init j = 0) : cellsC F = if F.ths.length < 1 ∨ 3 < F.ths.length then 5 else 0 := by
  unfold cellsC; rw [firstAt_none.2 hall]
def lnz : Ln := ⟨0, [], [], [], 0⟩
/-- What is wrong with the k-th line of a thread. -/
def lnC (ls : List Ln) (k : Nat) : Int := lineC ls k (ls.getD k lnz)
def thC (ls : List Ln) : Option Nat := firstAt (lnC ls) ls.length
def thG (ts : List (List Ln)) (i : Nat) : Int := if (thC (ts.getD i [])).isSome then 1 else 0
/-- The first wrong line of the first wrong thread: which thread, which line, what is wrong. -/
def lineF (ts : List (List Ln)) : Option (Nat × Nat × Int) :=
  match firstAt (thG ts) ts.length with | none => none | some i => match thC (ts.getD i []) with | none => none | some k => some (i, k, lnC (ts.getD i []) k)
/-- The same as three numbers; 0, 0 and 0, if there is none. -/
def lineT (ts : List (List Ln)) : Int × Int × Int := match lineF ts with | none => (0, 0, 0) | some (i, k, c) => ((i : Int), (k : Int), c)
theorem thC_none {ls : List Ln} (h : ∀ j, j < ls.length → lnC ls j = 0) : thC ls = none := firstAt_none.2 h
theorem lineT_hit {ts : List (List Ln)} {i k : Nat} (hi : i < ts.length) (hall : ∀ j, j < i → thC (ts.getD j []) = none) (hk : k < (ts.getD i []).length) (hl : ∀ j, j < k → lnC (ts.getD i []) j = 0) (h : lnC (ts.getD i []) k ≠ 0) :
    lineT ts = ((i : Int), (k : Int), lnC (ts.getD i []) k) := by
  have h1 : thC (ts.getD i []) = some k := firstAt_hit hl h hk
  have h2 : firstAt (thG ts) ts.length = some i := firstAt_hit (fun j hj => by unfold thG; rw [hall j hj]; rfl) (by unfold thG; rw [h1]; simp) hi
  unfold lineT lineF
  rw [h2]; simp only [h1]
theorem lineT_end {ts : List (List Ln)} (hall : ∀ j, j < ts.length → thC (ts.getD j []) = none) : lineT ts = (0, 0, 0) := by
  have h2 : firstAt (thG ts) ts.length = none := firstAt_none.2 (fun j hj => by unfold thG; rw [hall j hj]; rfl)
  unfold lineT lineF
  rw [h2]
/-- What is wrong with the k-th atom. -/
def atC (n : Nat) (am : List At) (k : Nat) : Int :=
  if 6 ≤ k then 5 else if AtomM.askedA (am.getD k AtomM.zero) = false then 1 else if (n : Int) ≤ (am.getD k AtomM.zero).t then 22 else 0
def atomT (n : Nat) (am : List At) : Int × Int × Int := match firstAt (atC n am) am.length with | none => (0, 0, 0) | some k => ((n : Int), (k : Int), atC n am k)
theorem atomT_hit {n k : Nat} {am : List At} (hk : k < am.length) (hall : ∀ j, j < k → atC n am j = 0) (h : atC n am k ≠ 0) : atomT n am = ((n : Int), (k : Int), atC n am k) := by
  unfold atomT; rw [firstAt_hit hall h hk]
theorem atomT_end {n : Nat} {am : List At} (hall : ∀ j, j < am.length → atC n am j = 0) : atomT n am = (0, 0, 0) := by
  unfold atomT; rw [firstAt_none.2 hall]
/-- A name is put among others, that rise. -/
def ins (s : L) : List L → List L
  | [] => [s]
  | x :: r => if s ≤ x then (if s = x then x :: r else s :: x :: r) else x :: ins s r
def put (l : List L) (s : L) : List L := if s = [] then l else ins s l
/-- The names of locations in lines, in threads, in atoms; all, one behind the other. -/
def lnames (ls : List Ln) : List L := (ls.map (·.loc)).filter (fun s => !decide (s = []))
def tnames : List (List Ln) → List L
  | [] => []
  | ls :: r => lnames ls ++ tnames r
def anames (am : List At) : List L := (am.filter (fun a => a.t == -1)).map (·.nm)
def names (F : Fl) : List L := F.init.map (·.1) ++ (tnames F.ths ++ anames F.cond)
theorem lnames_take (ls : List Ln) (k : Nat) (h : k < ls.length) : lnames (ls.take (k + 1)) = lnames (ls.take k) ++ (if ls[k].loc = [] then [] else [ls[k].loc]) := by
  unfold lnames
  rw [List.take_succ_eq_append_getElem h, List.map_append, List.filter_append]
  by_cases e : ls[k].loc = [] <;> simp [e]
theorem tnames_take : ∀ (ts : List (List Ln)) (k : Nat) (h : k < ts.length), tnames (ts.take (k + 1)) = tnames (ts.take k) ++ lnames ts[k]
  | [], k, h => absurd h (Nat.not_lt_zero k)
  | ls :: r, 0, h => by simp [tnames]
  | ls :: r, k + 1, h => by
    have := tnames_take r k (by simpa using h)
    simp only [List.take_succ_cons, tnames, List.getElem_cons_succ, this, List.append_assoc]
theorem anames_take (am : List At) (k : Nat) (h : k < am.length) : anames (am.take (k + 1)) = anames (am.take k) ++ (if am[k].t = -1 then [am[k].nm] else []) := by
  unfold anames
  rw [List.take_succ_eq_append_getElem h, List.filter_append, List.map_append]
  by_cases e : am[k].t = -1 <;> simp [e]
theorem inames_take (cs : List (L × Int)) (k : Nat) (h : k < cs.length) : (cs.take (k + 1)).map (·.1) = (cs.take k).map (·.1) ++ [cs[k].1] := by
  rw [List.take_succ_eq_append_getElem h, List.map_append]; rfl
theorem lnames_le (ls : List Ln) : (lnames ls).length ≤ ls.length := Nat.le_trans (List.length_filter_le _ _) (by simp)
theorem tnames_le {M : Nat} : ∀ (ts : List (List Ln)), (∀ ls ∈ ts, ls.length ≤ M) → (tnames ts).length ≤ ts.length * M
  | [], _ => by simp [tnames]
  | ls :: r, h => by
    have h1 := tnames_le r (fun x hx => h x (by simp [hx]))
    have h2 := h ls (by simp)
    have h3 := lnames_le ls
    simp only [tnames, List.length_append, List.length_cons, Nat.succ_mul]
    omega
theorem anames_le (am : List At) : (anames am).length ≤ am.length := by unfold anames; rw [List.length_map]; exact List.length_filter_le _ _
def locs (F : Fl) : List L := (names F).foldl put []
def locC (F : Fl) : Int := if 4 < (locs F).length then 5 else 0
def chk (F : Fl) : Int × Int × Int :=
  if frameC F ≠ 0 then (-1, -1, frameC F) else if (lineT F.ths).2.2 ≠ 0 then lineT F.ths else if (atomT F.ths.length F.cond).2.2 ≠ 0 then atomT F.ths.length F.cond
  else if locC F ≠ 0 then (-1, -1, locC F) else (0, 0, 0)
def right (F : Fl) : Bool := (chk F).2.2 == 0
def locsR (F : Fl) : List L := if right F then locs F else []

theorem lnC_take (ls : List Ln) (k : Nat) (h : k < ls.length) : lnC ls k = lineC ls k ls[k] := by
  unfold lnC
  rw [List.getD_eq_getElem?_getD, List.getElem?_eq_getElem h]; rfl
end Go.Proofs.Ytodpajnpnobfmaa.VM
