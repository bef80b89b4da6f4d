/-
  WRITES ON THEIR WAY, as mathematics: the last one, what is viewed, what comes there.
-/
import Derived.Test.YtodpajnpnobfmaaNumM
set_option linter.unusedSimpArgs false
namespace Go.Proofs.Ytodpajnpnobfmaa
set_option linter.unusedVariables false
namespace BfM
structure Wr where
  loc : Int
  n : Int
deriving DecidableEq
/-- The number of the last write to a location. -/
def last : List Wr → Int → Option Int
  | [], _ => none
  | w :: r, l => match last r l with
    | some n => some n
    | none => if w.loc = l then some w.n else none
theorem last_snoc : ∀ (b : List Wr) (w : Wr) (l : Int), last (b ++ [w]) l = if w.loc = l then some w.n else last b l
  | [], w, l => by simp [last]
  | x :: r, w, l => by
    rw [List.cons_append, last, last_snoc r w l]
    by_cases h : w.loc = l
    · simp [h]
    · simp [h, last]
theorem last_hit {b : List Wr} {l : Int} {k : Nat} (hk : k < b.length) (h : last (b.take (k + 1)) l = last b l) (hl : b[k].loc = l) : last b l = some b[k].n := by
  rw [← h, List.take_succ_eq_append_getElem hk, last_snoc, if_pos hl]
theorem last_miss {b : List Wr} {l : Int} {k : Nat} (hk : k < b.length) (h : last (b.take (k + 1)) l = last b l) (hl : ¬ b[k].loc = l) : last (b.take k) l = last b l := by
  rw [← h, List.take_succ_eq_append_getElem hk, last_snoc, if_neg hl]
/-- Is a location one of so many places? -/
def plc (m : Nat) (l : Int) : Bool := decide (0 ≤ l ∧ l < m)
def view (b : List Wr) (m : List Int) (l : Int) : Option Int :=
  match last b l with
  | some n => some n
  | none => if plc m.length l then m[l.toNat]? else none
/-- What the locations are when one write came there. -/
def arr (m : List Int) (w : Wr) : List Int := m.set w.loc.toNat w.n
def all : List Wr → List Int → List Int
  | [], m => m
  | w :: r, m => if plc m.length w.loc then all r (arr m w) else m
theorem arr_len (m : List Int) (w : Wr) : (arr m w).length = m.length := by simp [arr]
theorem all_len : ∀ (b : List Wr) (m : List Int), (all b m).length = m.length
  | [], m => rfl
  | w :: r, m => by
    rw [all]
    split
    · rw [all_len, arr_len]
    · rfl
theorem all_go {b : List Wr} {m : List Int} {k : Nat} (hk : k < b.length) (hp : plc m.length b[k].loc = true) : all (b.drop k) m = all (b.drop (k + 1)) (arr m b[k]) := by
  rw [List.drop_eq_getElem_cons hk, all, if_pos hp]
theorem all_stop {b : List Wr} {m : List Int} {k : Nat} (hk : k < b.length) (hp : plc m.length b[k].loc = false) : all (b.drop k) m = m := by
  rw [List.drop_eq_getElem_cons hk, all, if_neg (by rw [hp]; exact Bool.false_ne_true)]
theorem all_end {b : List Wr} {m : List Int} {k : Nat} (hk : b.length ≤ k) : all (b.drop k) m = m := by
  rw [List.drop_of_length_le hk]; rfl
/-- All writes are to places. -/
def ok (m : Nat) (b : List Wr) : Prop := ∀ w ∈ b, plc m w.loc = true
theorem all_app : ∀ (b c : List Wr) (m : List Int), ok m.length b → all (b ++ c) m = all c (all b m)
  | [], c, m, _ => rfl
  | w :: r, c, m, h => by
    rw [List.cons_append, all, all, if_pos (h w List.mem_cons_self), if_pos (h w List.mem_cons_self)]
    refine all_app r c _ (fun x hx => ?_)
    rw [arr_len]; exact h x (List.mem_cons_of_mem _ hx)
theorem arr_at {m : List Int} {w : Wr} (hw : plc m.length w.loc = true) {l : Int} (hl : plc m.length l = true) : (arr m w)[l.toNat]? = if w.loc = l then some w.n else m[l.toNat]? := by
  unfold plc at hw hl
  rw [decide_eq_true_eq] at hw hl
  unfold arr
  rw [List.getElem?_set]
  by_cases e : w.loc = l
  · rw [e]; simp; omega
  · rw [if_neg e, if_neg (by omega)]
theorem all_view : ∀ (b : List Wr) (m : List Int) (l : Int), ok m.length b → plc m.length l = true → (all b m)[l.toNat]? = view b m l
  | [], m, l, _, hl => by simp [all, view, last, hl]
  | w :: r, m, l, h, hl => by
    have hw := h w List.mem_cons_self
    have hr : ok (arr m w).length r := fun x hx => by rw [arr_len]; exact h x (List.mem_cons_of_mem _ hx)
    rw [all, if_pos hw, all_view r _ l hr (by rw [arr_len]; exact hl), view, view, last]
    cases last r l with
    | some n => rfl
    | none =>
      simp only [arr_len, if_pos hl]
      rw [arr_at hw hl]
      by_cases e : w.loc = l <;> simp [e, hl]
theorem view_some {b : List Wr} {m : List Int} {l : Int} (hl : plc m.length l = true) : ∃ n, view b m l = some n := by
  unfold view
  cases last b l with
  | some n => exact ⟨n, rfl⟩
  | none =>
    simp only [if_pos hl]
    unfold plc at hl
    rw [decide_eq_true_eq] at hl
    exact ⟨_, List.getElem?_eq_getElem (by omega)⟩
theorem last_none {b : List Wr} {m : Nat} {l : Int} (h : ok m b) (hl : plc m l = false) : last b l = none := by
  induction b with
  | nil => rfl
  | cons w r ih =>
    rw [last, ih (fun x hx => h x (List.mem_cons_of_mem _ hx))]
    have := h w List.mem_cons_self
    rw [if_neg (fun e => by rw [e, hl] at this; cases this)]
theorem view_none {b : List Wr} {m : List Int} {l : Int} (h : ok m.length b) (hl : plc m.length l = false) : view b m l = none := by
  unfold view
  rw [last_none h hl]
  simp [hl]
theorem view_other {b : List Wr} {w : Wr} {m : List Int} {l : Int} (h : ¬ w.loc = l) : view (b ++ [w]) m l = view b m l := by
  unfold view
  rw [last_snoc, if_neg h]
end BfM
end Go.Proofs.Ytodpajnpnobfmaa
