/-
  ARGUMENTS THAT ARE LINES AND ATOMS, by value: what their cells hold.
-/
import Derived.Test.YtkkjodjachbifaaGreatDoorOpsW
import Derived.Test.YtkkjodjachbifaaGreatDoorAtomQ
import Derived.Deep.Fields
import Derived.SliceStrings
import Derived.Test.YtkkjodjachbifaaGreatDoorKit2
import Derived.ChangeSame
import Derived.OpenShut
namespace Go.Proofs.YtkkjodjachbifaaGreatDoor
open Go Go.ChangeShapes Go.WideShapes Go.RowKit Go.Deep
set_option linter.unusedVariables false
set_option maxRecDepth 100000
set_option linter.unusedSimpArgs false

section
variable {H : Type} {enc : TypeId × Value → H} {P : Program} {w : World} {base : Nat} {spare : Nat → Bool} {held : Bool}
/-- A struct of one-cell fields, however many. -/
theorem open_fields {r : Reach} {b0 : Nat} {t : TypeId} {fs : Array Field} {v : Value} {d : DataW H} {p : List MemPlace} (hs : P.underlying t = some (.struct fs)) (hone : oneCellFields P fs = true) (hC : P.cellsOf t = fs.size)
    (hv : Value.okWide P w r b0 t v) (h : DataW.Trod enc P w base spare held t v d p) :
    ∃ cs : Array Value, v = .agg cs ∧ cs.size = fs.size ∧ ∀ (j : Nat) (f : Field), fs[j]? = some f → ∃ (x : Value) (y : DataW H × List MemPlace) (n : Nat), cs[j]? = some x ∧ DataW.trod enc P w base spare held n f.type [x] = some y := by
  obtain ⟨cs, rfl, hsz⟩ := okWide_struct hs hv
  obtain ⟨fuel, hf⟩ := h
  obtain ⟨xs, n, _, _, _, hlen, hg⟩ := DataW.trod_struct hs hf
  refine ⟨cs, rfl, hsz.trans hC, fun j f hj => ?_⟩
  obtain ⟨ho, hk⟩ := hone_of hone j f hj
  have hjl : j < fs.size := (Array.getElem?_eq_some_iff.1 hj).1
  have hjc : j < cs.size := by rw [hsz, hC]; exact hjl
  have h1 := hg j f hj
  rw [ho, hk] at h1
  have h2 : (((Value.agg cs).cells.toList).drop j).take 1 = [cs[j]] := by
    show (cs.toList.drop j).take 1 = _
    rw [List.drop_eq_getElem_cons (by simpa using hjc)]
    rfl
  have hx : xs[j]? = some (xs[j]'(by omega)) := List.getElem?_eq_getElem (by omega)
  rw [h2] at h1
  exact ⟨cs[j], xs[j]'(by omega), n, Array.getElem?_eq_getElem hjc, h1.trans hx⟩
end

theorem int_cell {H : Type} {enc : TypeId × Value → H} {P : Program} {w : World} {base : Nat} {spare : Nat → Bool} {held : Bool} {t : TypeId} {x : Value} {y : DataW H × List MemPlace} {n : Nat} (ht : P.underlying t = some (.int .i64))
    (h : DataW.trod enc P w base spare held n t [x] = some y) : ∃ k, x = .int .i64 k ∧ NumM.inR k := by
  obtain ⟨k, e, _, hw⟩ := DataW.trod_int ht h
  injection e with e _
  exact ⟨k, e, bounds_i64 hw⟩
theorem text_cell {H : Type} {enc : TypeId × Value → H} {P : Program} {w : World} {base : Nat} {spare : Nat → Bool} {held : Bool} {t : TypeId} {x : Value} {y : DataW H × List MemPlace} {n : Nat} (ht : P.underlying t = some .string)
    (h : DataW.trod enc P w base spare held n t [x] = some y) : ∃ s, x = .string s ∧ s.size ≤ maxLen := by
  obtain ⟨s, e, _, hw⟩ := DataW.trod_string ht h
  injection e with e _
  exact ⟨s, e, hw⟩

theorem open_line {H : Type} {enc : TypeId × Value → H} {w : World} {base : Nat} {spare : Nat → Bool} {held : Bool} {r : Reach} {b0 : Nat} {v : Value} {d : DataW H} {p : List MemPlace}
    (hv : Value.okWide Tryz.prog w r b0 28 v) (h : DataW.Trod enc Tryz.prog w base spare held 28 v d p) :
    ∃ (op : Int) (rg o b : ByteArray) (n : Int), v = lnv op rg o b n ∧ NumM.inR op ∧ NumM.inR n := by
  obtain ⟨cs, rfl, hsz, hf⟩ := open_fields Tryz.underlying28 (by kernel_rfl) (by kernel_rfl) hv h
  obtain ⟨l⟩ := cs
  match l, hsz with
  | [c0, c1, c2, c3, c4], _ =>
    obtain ⟨x0, y0, n0, e0, t0⟩ := hf 0 _ rfl
    obtain ⟨x1, y1, n1, e1, t1⟩ := hf 1 _ rfl
    obtain ⟨x2, y2, n2, e2, t2⟩ := hf 2 _ rfl
    obtain ⟨x3, y3, n3, e3, t3⟩ := hf 3 _ rfl
    obtain ⟨x4, y4, n4, e4, t4⟩ := hf 4 _ rfl
    obtain ⟨op, rfl, w0⟩ := int_cell Tryz.underlying3 t0
    obtain ⟨rg, rfl, _⟩ := text_cell Tryz.underlying9 t1
    obtain ⟨o, rfl, _⟩ := text_cell Tryz.underlying9 t2
    obtain ⟨b, rfl, _⟩ := text_cell Tryz.underlying9 t3
    obtain ⟨n, rfl, w4⟩ := int_cell Tryz.underlying3 t4
    obtain rfl := Option.some.inj e0
    obtain rfl := Option.some.inj e1
    obtain rfl := Option.some.inj e2
    obtain rfl := Option.some.inj e3
    obtain rfl := Option.some.inj e4
    exact ⟨op, rg, o, b, n, rfl, w0, w4⟩
theorem open_atom {H : Type} {enc : TypeId × Value → H} {w : World} {base : Nat} {spare : Nat → Bool} {held : Bool} {r : Reach} {b0 : Nat} {v : Value} {d : DataW H} {p : List MemPlace}
    (hv : Value.okWide Tryz.prog w r b0 54 v) (h : DataW.Trod enc Tryz.prog w base spare held 54 v d p) :
    ∃ (t : Int) (nm : ByteArray) (n : Int), v = atv t nm n ∧ NumM.inR t ∧ NumM.inR n := by
  obtain ⟨cs, rfl, hsz, hf⟩ := open_fields Tryz.underlying54 (by kernel_rfl) (by kernel_rfl) hv h
  obtain ⟨l⟩ := cs
  match l, hsz with
  | [c0, c1, c2], _ =>
    obtain ⟨x0, y0, n0, e0, t0⟩ := hf 0 _ rfl
    obtain ⟨x1, y1, n1, e1, t1⟩ := hf 1 _ rfl
    obtain ⟨x2, y2, n2, e2, t2⟩ := hf 2 _ rfl
    obtain ⟨t, rfl, w0⟩ := int_cell Tryz.underlying3 t0
    obtain ⟨nm, rfl, _⟩ := text_cell Tryz.underlying9 t1
    obtain ⟨n, rfl, w2⟩ := int_cell Tryz.underlying3 t2
    obtain rfl := Option.some.inj e0
    obtain rfl := Option.some.inj e1
    obtain rfl := Option.some.inj e2
    exact ⟨t, nm, n, rfl, w0, w2⟩
theorem cell_spot {w : World} {a : Addr} {v : Value} (h : w.cell? a = some v) : a.spot = none := by
  unfold World.cell? at h
  cases hs : a.spot with
  | none => rfl
  | some q =>
    rw [hs] at h
    split at h <;> simp at h
/-- A row of texts as an argument, wherever in its block it begins. -/
theorem open_strs {H : Type} {enc : TypeId × Value → H} {w : World} {base : Nat} {spare : Nat → Bool} {held : Bool} {r : Reach} {b0 : Nat} {v : Value} {d : DataW H} {p : List MemPlace}
    (hv : Value.okWide Tryz.prog w r b0 40 v) (h : DataW.Trod enc Tryz.prog w base spare held 40 v d p) :
    ∃ ls : List WordM.L, Strs w.heap.size w v ls := by
  obtain ⟨a, len, cap, rfl⟩ := okWide_slice Tryz.underlying40 hv
  obtain ⟨fuel, hf⟩ := h
  rcases open_strings Tryz.underlying40 Tryz.underlying9 (by kernel_rfl) hf with ⟨e, _⟩ | ⟨a', len', cap', ss, e, hb, hl, hm, hss, _, hcell, _⟩
  · simp [Value.cells] at e
    obtain ⟨rfl, rfl, rfl⟩ := e
    exact ⟨[], none, 0, rfl, Nat.le_refl _, by unfold maxLen; omega, fun k => absurd k (by simp)⟩
  · simp [Value.cells] at e
    obtain ⟨rfl, rfl, rfl⟩ := e
    have hle : len ≤ ss.length := by rw [hss]; split <;> omega
    have hlen : ((ss.take len).map (fun s => s.data.toList)).length = len := by simp; omega
    refine ⟨(ss.take len).map (fun s => s.data.toList), some a', cap, by rw [hlen], by rw [hlen]; exact hl, hm, fun k => ?_⟩
    rw [hlen] at k
    obtain ⟨b, f, sp⟩ := a'
    have c0 := hcell 0 (by omega)
    rw [Addr.add_zero'] at c0
    obtain rfl : sp = none := cell_spot c0
    refine ⟨b, f, rfl, lt_of_cell c0, fun j hj => ?_⟩
    have hj' : j < ss.length := by omega
    have cj := hcell j hj'
    rw [Addr.add_lit] at cj
    rw [cj]
    simp [sv, List.getD, List.getElem?_eq_getElem hj']
end Go.Proofs.YtkkjodjachbifaaGreatDoor
