/-
  THE DOCUMENT's line: what its cases have in common.
-/
import Derived.Test.YtaelfjphgdlbcaaK30
import Derived.Test.YtaelfjphgdlbcaaM03
import Derived.Deep.RegionHeld3
namespace Go.Proofs.Ytaelfjphgdlbcaa
open Go.RowKit
set_option linter.unusedVariables false
set_option linter.unusedSimpArgs false
open WordM (L)
open VM

theorem lns_take {B b f c k : Nat} {w : World} {ls : List OpsM.Ln} (hb : b < B) (hk : k ≤ ls.length) (hc : ls.length ≤ c) (hm : c ≤ maxLen) (h : ∀ j (h : j < ls.length), LnAt w b (f + j * 5) ls[j]) :
    Lns B w (.slice (some ⟨b, f, none⟩) k c) (ls.take k) := by
  have e : (ls.take k).length = k := by rw [List.length_take]; omega
  refine ⟨_, c, by rw [e], by omega, hm, fun _ => ⟨b, f, rfl, hb, fun j hj => ?_⟩⟩
  rw [List.getElem_take]
  exact h j (by omega)
theorem lns_drop {B b f c k : Nat} {w : World} {ls : List OpsM.Ln} (hb : b < B) (hk : k ≤ ls.length) (hc : ls.length ≤ c) (hm : c ≤ maxLen) (h : ∀ j (h : j < ls.length), LnAt w b (f + j * 5) ls[j]) :
    Lns B w (.slice (if c = k then some ⟨b, f, none⟩ else some ⟨b, f + k * 5, none⟩) (ls.length - k : Nat) (c - k : Nat)) (ls.drop k) := by
  have e : (ls.drop k).length = ls.length - k := List.length_drop
  by_cases hz : c = k
  · exact ⟨_, c - k, by rw [e], by omega, by omega, fun c => absurd c (by omega)⟩
  · rw [if_neg hz]
    refine ⟨_, c - k, by rw [e], by omega, by omega, fun _ => ⟨b, f + k * 5, rfl, hb, fun j hj => ?_⟩⟩
    rw [List.getElem_drop, show f + k * 5 + j * 5 = f + (k + j) * 5 by omega]
    exact h (k + j) (by omega)
theorem rright_l (x : OpsM.Ln) (w : World) (hr : x.reg.length ≤ 100000) (ho : x.loc.length ≤ 100000) (hb : x.label.length ≤ 100000) :
    Calls Try.prog 75 #[.agg #[.int .i64 x.op, .string ⟨x.reg.toArray⟩, .string ⟨x.loc.toArray⟩, .string ⟨x.label.toArray⟩, .int .i64 x.n]] w fun e w' => e = .returned (.bool (OpsM.rightL x)) ∧ Below w.heap.size w w' :=
  rright_any _ _ _ _ _ w (by rw [Lib.size_eq]; exact hr) (by rw [Lib.size_eq]; exact ho) (by rw [Lib.size_eq]; exact hb)
theorem rjump_l (x : OpsM.Ln) (w : World) :
    Calls Try.prog 71 #[.agg #[.int .i64 x.op, .string ⟨x.reg.toArray⟩, .string ⟨x.loc.toArray⟩, .string ⟨x.label.toArray⟩, .int .i64 x.n]] w fun e w' => e = .returned (.bool (jmpB x)) ∧ Below w.heap.size w w' := rjump_any _ _ _ _ _ w
theorem rinstr_l (x : OpsM.Ln) (w : World) :
    Calls Try.prog 77 #[.agg #[.int .i64 x.op, .string ⟨x.reg.toArray⟩, .string ⟨x.loc.toArray⟩, .string ⟨x.label.toArray⟩, .int .i64 x.n]] w fun e w' => e = .returned (.bool (insB x)) ∧ Below w.heap.size w w' := rinstr_any _ _ _ _ _ w
theorem keep6 {w W w' : World} {g : Nat} {x0 x1 x2 x3 x4 : Value} (hb : Below W.heap.size W w') (h : W.cell? ⟨g, 0, none⟩ = some x0 ∧ W.cell? ⟨g, 1, none⟩ = some x1 ∧ W.cell? ⟨g, 2, none⟩ = some x2 ∧ W.cell? ⟨g, 3, none⟩ = some x3 ∧ W.cell? ⟨g, 4, none⟩ = some x4 ∧ Below w.heap.size w W) :
    w'.cell? ⟨g, 0, none⟩ = some x0 ∧ w'.cell? ⟨g, 1, none⟩ = some x1 ∧ w'.cell? ⟨g, 2, none⟩ = some x2 ∧ w'.cell? ⟨g, 3, none⟩ = some x3 ∧ w'.cell? ⟨g, 4, none⟩ = some x4 ∧ Below w.heap.size w w' := by
  obtain ⟨h0, h1, h2, h3, h4, hB⟩ := h
  exact ⟨kc hb h0, kc hb h1, kc hb h2, kc hb h3, kc hb h4, chain hB hb⟩
def BxL (w : World) (g : Nat) (x : OpsM.Ln) : Prop := LnBox w g x.op ⟨x.reg.toArray⟩ ⟨x.loc.toArray⟩ ⟨x.label.toArray⟩ x.n
def RnRel (ls : List OpsM.Ln) (x : OpsM.Ln) (k0 : Nat) (w : World) (a b i : Value) (wr : World) : Prop :=
  ∃ k : Nat, k ≤ k0 ∧ i = .int .i64 k ∧ a = .int .i64 (cI (ls.take k) : Nat) ∧ b = .int .i64 (cM (ls.take k) : Nat) ∧ Below w.heap.size w wr ∧ BxL wr w.heap.size x
end Go.Proofs.Ytaelfjphgdlbcaa
