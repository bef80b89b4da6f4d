/-
  THE LAWS' Great: is a program too much? Where it is not, all is small.
-/
import Derived.Test.YtodpajnpnobfmaaFile
import Derived.Test.YtodpajnpnobfmaaBox
namespace Go.Proofs.Ytodpajnpnobfmaa
open Go.RowKit
set_option linter.unusedVariables false
set_option linter.unusedSimpArgs false
open WordM (L)
open VM

structure Small (F : Fl) : Prop where
  n1 : F.ths.length ≤ 9
  n2 : F.init.length ≤ 60
  n3 : F.cond.length ≤ 60
  name : F.name.length ≤ 1000
  init : ∀ j (h : j < F.init.length), F.init[j].1.length ≤ 100
  cond : ∀ j (h : j < F.cond.length), F.cond[j].nm.length ≤ 100
  ths : ∀ j (h : j < F.ths.length), F.ths[j].length ≤ 100 ∧ ∀ l ∈ F.ths[j], l.reg.length ≤ 1000 ∧ l.loc.length ≤ 1000 ∧ l.label.length ≤ 1000
/-- The ints of a program are ints. -/
def IntsOk (F : Fl) : Prop := ∀ a ∈ F.cond, NumM.inR a.t
theorem Small.ok {F : Fl} (h : Small F) (hi : IntsOk F) : FlOk F := by
  refine ⟨by have := h.name; omega, fun c hc => ?_, fun ls hl => ?_, fun a ha => ⟨?_, hi a ha⟩, by have := h.n1; have := h.n2; have := h.n3; omega⟩
  · obtain ⟨j, hj, rfl⟩ := List.mem_iff_getElem.1 hc
    have := h.init j hj; omega
  · obtain ⟨j, hj, rfl⟩ := List.mem_iff_getElem.1 hl
    have := h.ths j hj
    exact ⟨by omega, fun l hl => by have := this.2 l hl; omega⟩
  · obtain ⟨j, hj, rfl⟩ := List.mem_iff_getElem.1 ha
    have := h.cond j hj; omega
def GrK (F : Fl) (vi vt vc : Value) (w wr : World) : Prop := Below w.heap.size w wr ∧ FlBox wr w.heap.size ⟨F.name.toArray⟩ vi vt vc F.all
def G1Rel (F : Fl) (vi vt vc : Value) (w : World) (i : Value) (wr : World) : Prop :=
  ∃ k : Nat, k ≤ F.init.length ∧ i = .int .i64 k ∧ (∀ j (h : j < F.init.length), j < k → F.init[j].1.length ≤ 100) ∧ GrK F vi vt vc w wr
def G2Rel (F : Fl) (vi vt vc : Value) (w : World) (i : Value) (wr : World) : Prop :=
  ∃ k : Nat, k ≤ F.cond.length ∧ i = .int .i64 k ∧ (∀ j (h : j < F.cond.length), j < k → F.cond[j].nm.length ≤ 100) ∧ GrK F vi vt vc w wr
def G3Rel (F : Fl) (vi vt vc : Value) (w : World) (i : Value) (wr : World) : Prop :=
  ∃ k : Nat, k ≤ F.ths.length ∧ i = .int .i64 k ∧ (∀ j (h : j < F.ths.length), j < k → F.ths[j].length ≤ 100 ∧ ∀ l ∈ F.ths[j], l.reg.length ≤ 1000 ∧ l.loc.length ≤ 1000 ∧ l.label.length ≤ 1000) ∧ GrK F vi vt vc w wr
def G4Rel (F : Fl) (ls : List OpsM.Ln) (vi vt vc : Value) (w : World) (i : Value) (wr : World) : Prop :=
  ∃ k : Nat, k ≤ ls.length ∧ i = .int .i64 k ∧ (∀ j (h : j < ls.length), j < k → ls[j].reg.length ≤ 1000 ∧ ls[j].loc.length ≤ 1000 ∧ ls[j].label.length ≤ 1000) ∧ GrK F vi vt vc w wr
def GrRet (F : Fl) (w : World) (e : Ending) (w' : World) : Prop := ∃ b, e = .returned (.bool b) ∧ (b = false → Small F) ∧ Below w.heap.size w w'
theorem GrRet.yes {F : Fl} {w w' : World} (h : Below w.heap.size w w') : GrRet F w (.returned (.bool true)) w' := ⟨true, rfl, fun c => (by cases c), h⟩
end Go.Proofs.Ytodpajnpnobfmaa
