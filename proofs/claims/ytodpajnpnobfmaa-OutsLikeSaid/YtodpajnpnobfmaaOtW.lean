/-
  LAYER 15: literal rows; arguments that are ends, and rows of ends.
-/
import Derived.Test.YtodpajnpnobfmaaOtU
import Derived.Test.YtodpajnpnobfmaaRowF
namespace Go.Proofs.Ytodpajnpnobfmaa
open Go Go.ChangeShapes Go.WideShapes Go.RowKit Go.Deep
set_option linter.unusedVariables false
set_option linter.unusedSimpArgs false
set_option maxRecDepth 100000
open OtM
theorem lit_outs (W : World) (xs : List OV) {cs : Array Value} {k : Nat} (hc : cs.toList = xs.flatMap ovC) (hx : ∀ x ∈ xs, OvOk W.heap.size W x) (hk : xs.length = k := by rfl) (hm : k ≤ maxLen := by decide) :
    OutsX (W.alloc (.cells cs 24)).heap.size (W.alloc (.cells cs 24)) (.slice (some ⟨W.heap.size, 0, none⟩) k k) xs := by
  subst hk
  refine ⟨?_, fun x h => ((hx x h).below (below_al (Below.refl _ _) _)).more (below_al (Below.refl W.heap.size W) _).size⟩
  have h2 : cs.size = xs.length * 2 := by rw [← Array.length_toList, hc, fl_len ovC_len]
  have := World.ownsRow_lit (base := W.heap.size) (e := 24) (size := 2) W cs xs.length (Nat.le_refl _) hm h2
  rw [hc] at this
  exact Rw.own this (Nat.le_refl _)
/-- A literal row of numbers, behind more memory. -/
theorem lit_ints (W : World) (ns : List Int) {cs : Array Value} {k : Nat} (hc : cs.toList = ns.flatMap nuC) (hk : ns.length = k := by rfl) (hm : k ≤ maxLen := by decide) :
    IntR (W.alloc (.cells cs 3)).heap.size (W.alloc (.cells cs 3)) (.slice (some ⟨W.heap.size, 0, none⟩) k k) ns := by
  subst hk
  have h2 : cs.size = ns.length * 1 := by rw [← Array.length_toList, hc, fl_len nuC_len]
  have := World.ownsRow_lit (base := W.heap.size) (e := 3) (size := 1) W cs ns.length (Nat.le_refl _) hm h2
  rw [hc] at this
  exact Rw.own this (Nat.le_refl _)
theorem row_at {B n c : Nat} {w : World} {A : Option Addr} {xs : List OV} (h : OutsX B w (.slice A n c) xs) (k : Nat) (hk : k < xs.length) : ∃ b f, A = some ⟨b, f, none⟩ ∧ b < B ∧ w.cell? ⟨b, f + k * 2, none⟩ = some xs[k].m ∧ w.cell? ⟨b, f + k * 2 + 1, none⟩ = some xs[k].r := by
  obtain ⟨⟨A', c', e, h1, h2, h0, h3⟩, -⟩ := h
  injection e with e1 _ _
  subst e1
  obtain ⟨b, f, q1, q2, q3⟩ := ov_at h3 (by omega)
  exact ⟨b, f, q1, q2, q3 k hk⟩
theorem ofO_cons (x : Ot) (l : List Ot) : putO (ofO l) x = ofO (x :: l) := ofO_eq (putO_srt (ofO_srt l) x) fun y => by rw [putO_mem, ofO_mem, List.mem_cons]
theorem OutsX.drw {w : World} {v : Value} {xs : List OV} (h : OutsX w.heap.size w v xs) : OutsX w.drew.heap.size w.drew v xs := h
theorem Below.drw {B : Nat} {w W : World} (h : Below B w W) : Below B w W.drew := below_drewN h 1
section
variable {H : Type} {enc : TypeId × Value → H} {w : World} {base : Nat} {spare : Nat → Bool} {held : Bool}
theorem nums_cell {fuel : Nat} {v : Value} {x : DataW H × List MemPlace} (h : DataW.trod enc Try.prog w base spare held fuel 22 [v] = some x) : ∃ ns, IntR w.heap.size w v ns := by
  obtain ⟨xs, hx, -⟩ := open_rw NumM.inR nuC_len Try.underlying22 (by kernel_rfl) (by decide) elem_in h
  exact ⟨xs, hx⟩
theorem elem_ov (cs : List Value) (y : DataW H × List MemPlace) (k : Nat) (hl : cs.length = 2) (h : DataW.trod enc Try.prog w base spare held k 24 cs = some y) : ∃ a : OV, ovC a = cs ∧ OvOk w.heap.size w a := by
  have hf := open_cells Try.underlying24 (by kernel_rfl) h hl
  match cs, hl with
  | [c0, c1], _ =>
    obtain ⟨x0, y0, n0, e0, t0⟩ := hf 0 _ rfl
    obtain ⟨x1, y1, n1, e1, t1⟩ := hf 1 _ rfl
    obtain ⟨ns, h1⟩ := nums_cell t0
    obtain ⟨ms, h2⟩ := nums_cell t1
    obtain rfl := Option.some.inj e0
    obtain rfl := Option.some.inj e1
    exact ⟨⟨_, _, (ns, ms)⟩, rfl, h1, h2⟩
theorem open_outs {r : Reach} {b0 : Nat} {v : Value} {d : DataW H} {p : List MemPlace} (hv : Value.okWide Try.prog w r b0 25 v) (h : DataW.Trod enc Try.prog w base spare held 25 v d p) :
    ∃ xs : List OV, OutsX w.heap.size w v xs := by
  obtain ⟨a, len, cap, rfl⟩ := okWide_slice Try.underlying25 hv
  obtain ⟨fuel, hf⟩ := h
  obtain ⟨xs, h1, h2⟩ := open_rw (OvOk w.heap.size w) ovC_len Try.underlying25 (by kernel_rfl) (by decide) elem_ov (by simpa [Value.cells] using hf)
  exact ⟨xs, h1, h2⟩
theorem open_out {r : Reach} {b0 : Nat} {v : Value} {d : DataW H} {p : List MemPlace} (hv : Value.okWide Try.prog w r b0 24 v) (h : DataW.Trod enc Try.prog w base spare held 24 v d p) :
    ∃ a : OV, v = .agg #[a.m, a.r] ∧ OvOk w.heap.size w a := by
  obtain ⟨cs, rfl, hsz, hf⟩ := open_fields Try.underlying24 (by kernel_rfl) (by kernel_rfl) hv h
  obtain ⟨x0, y0, n0, e0, t0⟩ := hf 0 _ rfl
  obtain ⟨x1, y1, n1, e1, t1⟩ := hf 1 _ rfl
  obtain ⟨ns, h1⟩ := nums_cell t0
  obtain ⟨ms, h2⟩ := nums_cell t1
  have hcs : cs = #[x0, x1] := by
    have hs2 : cs.size = 2 := hsz.trans rfl
    apply Array.ext
    · rw [hs2]; rfl
    · intro i hi hi2
      have : i < 2 := by rw [hs2] at hi; exact hi
      match i, this with
      | 0, _ => exact Option.some.inj ((Array.getElem?_eq_getElem hi).symm.trans e0)
      | 1, _ => exact Option.some.inj ((Array.getElem?_eq_getElem hi).symm.trans e1)
  subst hcs
  exact ⟨⟨x0, x1, (ns, ms)⟩, rfl, h1, h2⟩
end
end Go.Proofs.Ytodpajnpnobfmaa
