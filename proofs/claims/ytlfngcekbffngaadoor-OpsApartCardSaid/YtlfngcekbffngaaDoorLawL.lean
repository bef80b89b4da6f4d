/-
  SMALL FACTS for the laws of layer 3.
-/
import Derived.Test.YtlfngcekbffngaaDoorLawH
import Derived.Test.YtlfngcekbffngaaDoorOpsN
namespace Go.Proofs.YtlfngcekbffngaaDoor
open Go.RowKit
set_option linter.unusedVariables false
open WordM (L)

theorem below_al {w a : World} (h : Below w.heap.size w a) (o : Obj) : Below w.heap.size w (a.alloc o) := h.alloc h.size o
theorem LnBox.at {w : World} {g : Nat} (hg : g = w.heap.size) (op n : Int) (r o b : ByteArray) (T : TypeId) : LnBox (w.alloc (.cells #[.int .i64 op, .string r, .string o, .string b, .int .i64 n] T)) g op r o b n := by
  subst hg; exact LnBox.new w op n r o b T
theorem AtBox.at {w : World} {g : Nat} (hg : g = w.heap.size) (t n : Int) (nm : ByteArray) (T : TypeId) : AtBox (w.alloc (.cells #[.int .i64 t, .string nm, .int .i64 n] T)) g t nm n := by
  subst hg; exact AtBox.new w t n nm T
theorem great_line_no {r o b : ByteArray} (h : (decide (1000 < r.size) || (decide (1000 < o.size) || decide (1000 < b.size))) = false) : r.size ≤ 1000 ∧ o.size ≤ 1000 ∧ b.size ≤ 1000 := by
  simp only [Bool.or_eq_false_iff, decide_eq_false_iff_not] at h
  omega
/-- A line got from its words: itself, if it is right; else nothing. -/
theorem get_own (op n : Int) (r o b : L) (hn : NumM.inR n) : OpsM.get (OpsM.words op r o b n) = if OpsM.right op r o b n then (⟨op, r, o, b, n⟩, true) else (OpsM.zero, false) := by
  cases h : OpsM.right op r o b n with
  | true => exact OpsM.get_words (l := ⟨op, r, o, b, n⟩) h hn
  | false =>
    have := OpsM.get_wrong (l := ⟨op, r, o, b, n⟩) h
    rw [show OpsM.words op r o b n = [] from this]
    exact OpsM.get_nil
theorem words_pos (op n : Int) (r o b : L) : decide ((0 : Int) < ((OpsM.words op r o b n).length : Int)) = OpsM.right op r o b n := by
  cases h : OpsM.right op r o b n with
  | true =>
    have := OpsM.words_pos_len op r o b n h
    exact decide_eq_true (by omega)
  | false =>
    refine decide_eq_false ?_
    unfold OpsM.words
    rw [h]; simp
/-- Same, with what became of the world said as ever. -/
theorem same_below {B : Nat} {va vb : Value} {a b : List L} (w : World) (ha : Strs B w va a) (hb : Strs B w vb b) :
    Calls Tryd.prog 18 #[va, vb] w fun e w' => e = .returned (.bool (sameB a b)) ∧ Below w.heap.size w w' :=
  (same_any B va vb a b w ha hb).mono fun e w' ⟨h, n, hn⟩ => ⟨h, by rw [hn]; exact below_drewN (Below.refl _ _) n⟩
theorem strs_up {B : Nat} {w w' : World} {v : Value} {ls : List L} (h : Strs B w v ls) (hB : B ≤ w.heap.size) (hb : Below w.heap.size w w') : Strs w'.heap.size w' v ls :=
  strs_more (strs_below h (hb.mono hB)) (Nat.le_trans hB hb.size)
theorem zero_box : lnw OpsM.zero = .agg #[.int .i64 0, .string ⟨#[]⟩, .string ⟨#[]⟩, .string ⟨#[]⟩, .int .i64 0] := rfl
theorem zero_atom : atw AtomM.zero = .agg #[.int .i64 0, .string ⟨#[]⟩, .int .i64 0] := rfl
end Go.Proofs.YtlfngcekbffngaaDoor
