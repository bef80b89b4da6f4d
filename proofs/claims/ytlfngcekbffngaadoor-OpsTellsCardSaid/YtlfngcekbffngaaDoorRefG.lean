/-
  LINES IN A SLICE OF THE CALL's OWN: what the document's Get goes through.
-/
import Derived.Test.YtlfngcekbffngaaDoorRefM
import Derived.Test.YtlfngcekbffngaaDoorRefI
import Derived.Test.YtlfngcekbffngaaDoorOpsH
import Derived.Test.YtlfngcekbffngaaDoorSame
namespace Go.Proofs.YtlfngcekbffngaaDoor
open Go.RowKit
set_option linter.unusedVariables false
set_option linter.unusedSimpArgs false
open WordM (L)

/-- The cells of a line, of lines. -/
def lnc (l : OpsM.Ln) : List Value := [.int .i64 l.op, .string ⟨l.reg.toArray⟩, .string ⟨l.loc.toArray⟩, .string ⟨l.label.toArray⟩, .int .i64 l.n]
def lncs : List OpsM.Ln → List Value
  | [] => []
  | l :: r => lnc l ++ lncs r
theorem lncs_at : ∀ (cs : List OpsM.Ln) (k : Nat) (h : k < cs.length) (j : Nat), j < 5 → (lncs cs)[k * 5 + j]? = (lnc cs[k])[j]?
  | l :: r, 0, _, j, hj => by
    show (lnc l ++ lncs r)[0 * 5 + j]? = _
    rw [show 0 * 5 + j = j by omega, List.getElem?_append_left (by show j < 5; exact hj)]
    rfl
  | l :: r, k + 1, h, j, hj => by
    have ih := lncs_at r k (by simpa using h) j hj
    show (lnc l ++ lncs r)[(k + 1) * 5 + j]? = _
    rw [List.getElem?_append_right (by show 5 ≤ _; omega), show (k + 1) * 5 + j - (lnc l).length = k * 5 + j by show (k + 1) * 5 + j - 5 = _; omega]
    exact ih
/-- The lines cs stand in block g from its start on. -/
def Cands (w : World) (g : Nat) (cs : List OpsM.Ln) : Prop := ∀ k (h : k < cs.length), w.cell? ⟨g, k * 5, none⟩ = some (.int .i64 cs[k].op) ∧ w.cell? ⟨g, k * 5 + 1, none⟩ = some (.string ⟨cs[k].reg.toArray⟩) ∧
  w.cell? ⟨g, k * 5 + 2, none⟩ = some (.string ⟨cs[k].loc.toArray⟩) ∧ w.cell? ⟨g, k * 5 + 3, none⟩ = some (.string ⟨cs[k].label.toArray⟩) ∧ w.cell? ⟨g, k * 5 + 4, none⟩ = some (.int .i64 cs[k].n)
theorem cands_new (w : World) (cs : List OpsM.Ln) (z : Array Value) (t : TypeId) : Cands (w.alloc (.cells ((lncs cs).toArray ++ z) t)) w.heap.size cs := by
  have key : ∀ k (h : k < cs.length) j, j < 5 → (w.alloc (.cells ((lncs cs).toArray ++ z) t)).cell? ⟨w.heap.size, k * 5 + j, none⟩ = (lnc cs[k])[j]? := fun k h j hj => by
    rw [World.cell?_alloc_at _ _ _ _ rfl]
    have e := lncs_at cs k h j hj
    have hl : k * 5 + j < (lncs cs).length := by
      rcases Nat.lt_or_ge (k * 5 + j) (lncs cs).length with h' | h'
      · exact h'
      · rw [List.getElem?_eq_none h'] at e
        have : j < (lnc cs[k]).length := hj
        rw [List.getElem?_eq_getElem this] at e
        cases e
    show ((lncs cs).toArray ++ z)[k * 5 + j]? = _
    rw [Array.getElem?_append_left (by simpa using hl)]
    simpa using e
  exact fun k h => ⟨key k h 0 (by omega), key k h 1 (by omega), key k h 2 (by omega), key k h 3 (by omega), key k h 4 (by omega)⟩
theorem cands_lt {w : World} {g : Nat} {cs : List OpsM.Ln} (h : Cands w g cs) (k : Nat) (hk : k < cs.length) : g < w.heap.size := lt_of_cell (h k hk).1
theorem cands_below {w w' : World} {g : Nat} {cs : List OpsM.Ln} (h : Cands w g cs) (hb : Below w.heap.size w w') : Cands w' g cs := fun k hk => by
  have hg := cands_lt h k hk
  obtain ⟨h0, h1, h2, h3, h4⟩ := h k hk
  exact ⟨(hb.cell (p := ⟨g, _, none⟩) hg).trans h0, (hb.cell (p := ⟨g, _, none⟩) hg).trans h1, (hb.cell (p := ⟨g, _, none⟩) hg).trans h2, (hb.cell (p := ⟨g, _, none⟩) hg).trans h3, (hb.cell (p := ⟨g, _, none⟩) hg).trans h4⟩
/-- A line's box that is still zero. -/
def Box0 (w : World) (b : Nat) : Prop := ∀ j v, ([.int .i64 0, .string ⟨#[]⟩, .string ⟨#[]⟩, .string ⟨#[]⟩, .int .i64 0] : List Value)[j]? = some v → w.cell? ⟨b, j, none⟩ = some v ∧ w.frozen? ⟨b, j, none⟩ = false
theorem box0_below {w w' : World} {b : Nat} (h : Box0 w b) (hb : Below w.heap.size w w') : Box0 w' b := fun j v e => by
  have hg := lt_of_cell (h j v e).1
  exact ⟨(hb.cell (p := ⟨b, j, none⟩) hg).trans (h j v e).1, (hb.frozen (p := ⟨b, j, none⟩) hg).trans (h j v e).2⟩
theorem box0_new {w w' : World} {t : TypeId} (hb : Below (w.heap.size + 1) (w.alloc (.cells #[.int .i64 0, .string ⟨#[]⟩, .string ⟨#[]⟩, .string ⟨#[]⟩, .int .i64 0] t)) w') : Box0 w' w.heap.size := fun j v e => by
  refine ⟨(hb.cell (p := ⟨w.heap.size, j, none⟩) (by simp)).trans ?_, (hb.frozen (p := ⟨w.heap.size, j, none⟩) (by simp)).trans ?_⟩
  · rw [World.cell?_alloc_at _ _ _ _ rfl]
    have : (#[.int .i64 0, .string ⟨#[]⟩, .string ⟨#[]⟩, .string ⟨#[]⟩, .int .i64 0] : Array Value)[j]? = some v := by rw [← e]; exact List.getElem?_toArray
    exact this
  · rw [World.frozen?_alloc_at _ _ _ _ rfl]
/-- At a round: the candidates ahead of k are none. -/
def GRel (ls : List L) (cs : List OpsM.Ln) (w : World) (g : Nat) (i : Value) (wr : World) : Prop :=
  ∃ k : Nat, k ≤ cs.length ∧ i = .int .i64 k ∧ (∀ j (h : j < cs.length), j < k → OpsM.okL ls cs[j] = false) ∧ Below w.heap.size w wr ∧ Cands wr g cs ∧ Box0 wr w.heap.size
theorem grel_next {ls : List L} {cs : List OpsM.Ln} {w wr w1 : World} {g k : Nat} (hk : k < cs.length) (hall : ∀ j (h : j < cs.length), j < k → OpsM.okL ls cs[j] = false) (hB : Below w.heap.size w wr) (hC : Cands wr g cs) (h0 : Box0 wr w.heap.size)
    (hno : OpsM.okL ls cs[k] = false) (hb : Below wr.heap.size wr w1) : GRel ls cs w g (.int .i64 ((k : Int) + 1)) w1 :=
  ⟨k + 1, by omega, by go_num, fun j h h1 => by
    by_cases e : j = k
    · subst e; exact hno
    · exact hall j h (by omega), chain hB hb, cands_below hC hb, box0_below h0 hb⟩
theorem find_hit {ls : List L} {cs : List OpsM.Ln} {k : Nat} (hk : k < cs.length) (hall : ∀ j (h : j < cs.length), j < k → OpsM.okL ls cs[j] = false) (hy : OpsM.okL ls cs[k] = true) : cs.find? (OpsM.okL ls) = some cs[k] := by
  rw [List.find?_eq_some_iff_getElem]
  refine ⟨hy, k, hk, rfl, fun j hj => ?_⟩
  rw [hall j (by omega) hj]; rfl
theorem find_miss {ls : List L} {cs : List OpsM.Ln} (hall : ∀ j (h : j < cs.length), j < cs.length → OpsM.okL ls cs[j] = false) : cs.find? (OpsM.okL ls) = none := by
  rw [List.find?_eq_none]
  intro x hx
  obtain ⟨j, hj, rfl⟩ := List.mem_iff_getElem.1 hx
  rw [hall j hj hj]; simp
theorem rget_hit {ls : List L} {k : Nat} (hk : k < (OpsM.cands ls).length) (hall : ∀ j (h : j < (OpsM.cands ls).length), j < k → OpsM.okL ls (OpsM.cands ls)[j] = false) (hy : OpsM.okL ls (OpsM.cands ls)[k] = true) : OpsM.rget ls = ((OpsM.cands ls)[k], true) := by
  unfold OpsM.rget; rw [find_hit hk hall hy]
theorem rget_miss {ls : List L} (hall : ∀ j (h : j < (OpsM.cands ls).length), j < (OpsM.cands ls).length → OpsM.okL ls (OpsM.cands ls)[j] = false) : OpsM.rget ls = (OpsM.zero, false) := by
  unfold OpsM.rget; rw [find_miss hall]
theorem cell_drew {w : World} {p : Addr} {v : Value} (h : w.cell? p = some v) : w.drew.cell? p = some v := h
theorem cell_alloc {w : World} {g i : Nat} {v : Value} {o : Obj} (h : w.cell? ⟨g, i, none⟩ = some v) : (w.alloc o).cell? ⟨g, i, none⟩ = some v :=
  (((Below.refl w.heap.size w).alloc (Nat.le_refl _) o).cell (p := ⟨g, i, none⟩) (lt_of_cell h)).trans h
end Go.Proofs.YtlfngcekbffngaaDoor
