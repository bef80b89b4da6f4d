/-
  ARGUMENTS THAT ARE CODES: what their cells hold.
-/
import Derived.Test.YtbffjhdocicfoaaK03
import Derived.Test.YtbffjhdocicfoaaK04
namespace Go.Proofs.Ytbffjhdocicfoaa
open Go Go.ChangeShapes Go.WideShapes Go.RowKit Go.Deep
set_option linter.unusedVariables false
set_option maxRecDepth 100000
set_option linter.unusedSimpArgs false
open WordM (L)
open CodM (St Pg)

def StIn (s : St) : Prop := NumM.inR s.op ∧ NumM.inR s.reg ∧ NumM.inR s.loc ∧ NumM.inR s.n ∧ NumM.inR s.to
/-- What is in range in a code. -/
structure PgIn (P : Pg) : Prop where
  init : ∀ n ∈ P.init, NumM.inR n
  ths : ∀ ss ∈ P.ths, ∀ s ∈ ss, StIn s
section
variable {H : Type} {enc : TypeId × Value → H} {w : World} {base : Nat} {spare : Nat → Bool} {held : Bool}
theorem elem_num (b off : Nat) (cs : List Value) (y : DataW H × List MemPlace) (k : Nat) (hl : cs.length = 1) (hc : ∀ i, i < 1 → w.cell? ⟨b, off + i, none⟩ = cs[i]?) (h : DataW.trod enc Try.prog w base spare held k 3 cs = some y) : ∃ a : Int, IntAt w b off a ∧ NumM.inR a := by
  match cs, hl with
  | [c0], _ =>
    obtain ⟨n, rfl, wn⟩ := int_cell Try.underlying3 h
    exact ⟨n, hc 0 (by decide), wn⟩
theorem open_nums {fuel : Nat} {v : Value} {x : DataW H × List MemPlace} (h : DataW.trod enc Try.prog w base spare held fuel 22 [v] = some x) : ∃ ns, Ints w.heap.size w v ns ∧ (∀ n ∈ ns, NumM.inR n) ∧ NilZ v := by
  obtain ⟨xs, A, c, e, h1, h2, h3, h4⟩ := open_row (n := 1) (fun b off a => IntAt w b off a ∧ NumM.inR a) Try.underlying22 (by kernel_rfl) (by decide) elem_num h
  refine ⟨xs, ⟨A, c, e, h1, h2, fun k => ?_⟩, fun s hs => ?_, fun n c' e' => by rw [e] at e'; injection e' with e1 _ e3; rw [← e3]; exact h4 e1⟩
  · obtain ⟨b, f, e1, e2, e3⟩ := h3 k
    exact ⟨b, f, e1, e2, fun j hj => by have := (e3 j hj).1; rwa [Nat.mul_one] at this⟩
  · obtain ⟨j, hj, rfl⟩ := List.mem_iff_getElem.1 hs
    obtain ⟨b, f, e1, e2, e3⟩ := h3 (by omega)
    exact (e3 j hj).2
end
end Go.Proofs.Ytbffjhdocicfoaa
