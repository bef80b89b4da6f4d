/-
  whether two rows of texts are alike (the document's Same).
-/
import Derived.Test.YtaelfjphgdlbcaaGreatDoorBase
namespace Go.Proofs.YtaelfjphgdlbcaaGreatDoor
open Go.RowKit
open WordM (L)
set_option linter.unusedVariables false
/-- Whether two rows of texts are alike. -/
def sameB (a b : List L) : Bool := decide (a = b)
theorem sv_inj {a b : L} (h : sv a = sv b) : a = b := by
  unfold sv at h
  injection h with h
  have := congrArg (fun x : ByteArray => x.data.toList) h
  simpa using this
theorem sameB_len {a b : List L} (h : a.length ≠ b.length) : sameB a b = false := decide_eq_false (fun e => h (by rw [e]))
theorem sameB_at {a b : List L} (k : Nat) (ha : k < a.length) (hb : k < b.length) (h : a[k] ≠ b[k]) : sameB a b = false := decide_eq_false (fun e => by subst e; exact h rfl)
theorem sameB_all {a b : List L} (hl : a.length = b.length) (h : ∀ k (ha : k < a.length) (hb : k < b.length), a[k] = b[k]) : sameB a b = true :=
  decide_eq_true (List.ext_getElem hl h)
def SameRel (a b : List L) (w : World) (i : Value) (wr : World) : Prop :=
  ∃ k n : Nat, k ≤ a.length ∧ i = .int .i64 k ∧ wr = w.drewN n ∧ ∀ j (_ : j < k) (ha : j < a.length) (hb : j < b.length), a[j] = b[j]
theorem strs_lit (w : World) (ls : List L) (T : TypeId) (h : ls.length ≤ maxLen) : Strs (w.heap.size + 1) (w.alloc (.cells (svs ls).toArray T)) (.slice (some ⟨w.heap.size, 0, none⟩) ls.length ls.length) ls := by
  refine ⟨_, _, rfl, Nat.le_refl _, h, fun _ => ⟨w.heap.size, 0, rfl, by omega, fun j hj => ?_⟩⟩
  rw [Nat.zero_add]
  rw [World.cell?_alloc_at _ _ _ _ rfl]
  show ((svs ls).toArray)[j]? = _
  simp [svs, hj]
end Go.Proofs.YtaelfjphgdlbcaaGreatDoor
