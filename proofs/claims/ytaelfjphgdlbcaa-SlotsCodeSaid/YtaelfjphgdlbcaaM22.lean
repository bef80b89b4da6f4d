/-
  ARGUMENTS THAT ARE LINES AND ATOMS, by value: what their cells hold.
  ARGUMENTS THAT ARE PROGRAMS: what their cells hold.
  ARGUMENTS THAT ARE CODES: what their cells hold.
-/
import Derived.Test.YtaelfjphgdlbcaaM01
import Derived.Test.YtaelfjphgdlbcaaM02
import Derived.Deep.Fields
import Derived.SliceStrings
import Derived.ChangeSame
import Derived.OpenShut
import Derived.Test.YtaelfjphgdlbcaaM05
import Derived.Test.YtaelfjphgdlbcaaGreat
import Derived.Test.YtaelfjphgdlbcaaM03
namespace Go.Proofs.Ytaelfjphgdlbcaa
open Go Go.ChangeShapes Go.WideShapes Go.RowKit Go.Deep
set_option linter.unusedVariables false
set_option maxRecDepth 100000
set_option linter.unusedSimpArgs false

section
variable {H : Type} {enc : TypeId × Value → H} {P : Program} {w : World} {base : Nat} {spare : Nat → Bool} {held : Bool}
/-- A struct of one-cell fields, however many. -/
theorem open_fields {r : Reach} {b0 : Nat} {t : TypeId} {fs : Array Field} {v : Value} {d : DataW H} {p : List MemPlace} (hs : P.underlying t = some (.struct fs)) (hone : oneCellFields P fs = true) (hC : P.cellsOf t = fs.size)
    (hv : Value.okWide P w r b0 t v) (h : DataW.Trod enc P w base spare held t v d p) :
    ∃ cs : Array Value, v = .agg cs ∧ cs.size = fs.size ∧ ∀ (j : Nat) (f : Field), fs[j]? = some f → ∃ (x : Value) (y : DataW H × List MemPlace) (n : Nat), cs[j]? = some x ∧ DataW.trod enc P w base spare held n f.type [x] = some y := by
  obtain ⟨cs, rfl, hsz⟩ := okWide_struct hs hv
  obtain ⟨fuel, hf⟩ := h
  obtain ⟨xs, n, _, _, _, hlen, hg⟩ := DataW.trod_struct hs hf
  refine ⟨cs, rfl, hsz.trans hC, fun j f hj => ?_⟩
  obtain ⟨ho, hk⟩ := hone_of hone j f hj
  have hjl : j < fs.size := (Array.getElem?_eq_some_iff.1 hj).1
  have hjc : j < cs.size := by rw [hsz, hC]; exact hjl
  have h1 := hg j f hj
  rw [ho, hk] at h1
  have h2 : (((Value.agg cs).cells.toList).drop j).take 1 = [cs[j]] := by
    show (cs.toList.drop j).take 1 = _
    rw [List.drop_eq_getElem_cons (by simpa using hjc)]
    rfl
  have hx : xs[j]? = some (xs[j]'(by omega)) := List.getElem?_eq_getElem (by omega)
  rw [h2] at h1
  exact ⟨cs[j], xs[j]'(by omega), n, Array.getElem?_eq_getElem hjc, h1.trans hx⟩
end

theorem int_cell {H : Type} {enc : TypeId × Value → H} {P : Program} {w : World} {base : Nat} {spare : Nat → Bool} {held : Bool} {t : TypeId} {x : Value} {y : DataW H × List MemPlace} {n : Nat} (ht : P.underlying t = some (.int .i64))
    (h : DataW.trod enc P w base spare held n t [x] = some y) : ∃ k, x = .int .i64 k ∧ NumM.inR k := by
  obtain ⟨k, e, _, hw⟩ := DataW.trod_int ht h
  injection e with e _
  exact ⟨k, e, bounds_i64 hw⟩
theorem text_cell {H : Type} {enc : TypeId × Value → H} {P : Program} {w : World} {base : Nat} {spare : Nat → Bool} {held : Bool} {t : TypeId} {x : Value} {y : DataW H × List MemPlace} {n : Nat} (ht : P.underlying t = some .string)
    (h : DataW.trod enc P w base spare held n t [x] = some y) : ∃ s, x = .string s ∧ s.size ≤ maxLen := by
  obtain ⟨s, e, _, hw⟩ := DataW.trod_string ht h
  injection e with e _
  exact ⟨s, e, hw⟩

theorem open_line {H : Type} {enc : TypeId × Value → H} {w : World} {base : Nat} {spare : Nat → Bool} {held : Bool} {r : Reach} {b0 : Nat} {v : Value} {d : DataW H} {p : List MemPlace}
    (hv : Value.okWide Try.prog w r b0 60 v) (h : DataW.Trod enc Try.prog w base spare held 60 v d p) :
    ∃ (op : Int) (rg o b : ByteArray) (n : Int), v = lnv op rg o b n ∧ NumM.inR op ∧ NumM.inR n := by
  obtain ⟨cs, rfl, hsz, hf⟩ := open_fields Try.underlying60 (by kernel_rfl) (by kernel_rfl) hv h
  obtain ⟨l⟩ := cs
  match l, hsz with
  | [c0, c1, c2, c3, c4], _ =>
    obtain ⟨x0, y0, n0, e0, t0⟩ := hf 0 _ rfl
    obtain ⟨x1, y1, n1, e1, t1⟩ := hf 1 _ rfl
    obtain ⟨x2, y2, n2, e2, t2⟩ := hf 2 _ rfl
    obtain ⟨x3, y3, n3, e3, t3⟩ := hf 3 _ rfl
    obtain ⟨x4, y4, n4, e4, t4⟩ := hf 4 _ rfl
    obtain ⟨op, rfl, w0⟩ := int_cell Try.underlying3 t0
    obtain ⟨rg, rfl, _⟩ := text_cell Try.underlying9 t1
    obtain ⟨o, rfl, _⟩ := text_cell Try.underlying9 t2
    obtain ⟨b, rfl, _⟩ := text_cell Try.underlying9 t3
    obtain ⟨n, rfl, w4⟩ := int_cell Try.underlying3 t4
    obtain rfl := Option.some.inj e0
    obtain rfl := Option.some.inj e1
    obtain rfl := Option.some.inj e2
    obtain rfl := Option.some.inj e3
    obtain rfl := Option.some.inj e4
    exact ⟨op, rg, o, b, n, rfl, w0, w4⟩
theorem open_atom {H : Type} {enc : TypeId × Value → H} {w : World} {base : Nat} {spare : Nat → Bool} {held : Bool} {r : Reach} {b0 : Nat} {v : Value} {d : DataW H} {p : List MemPlace}
    (hv : Value.okWide Try.prog w r b0 64 v) (h : DataW.Trod enc Try.prog w base spare held 64 v d p) :
    ∃ (t : Int) (nm : ByteArray) (n : Int), v = atv t nm n ∧ NumM.inR t ∧ NumM.inR n := by
  obtain ⟨cs, rfl, hsz, hf⟩ := open_fields Try.underlying64 (by kernel_rfl) (by kernel_rfl) hv h
  obtain ⟨l⟩ := cs
  match l, hsz with
  | [c0, c1, c2], _ =>
    obtain ⟨x0, y0, n0, e0, t0⟩ := hf 0 _ rfl
    obtain ⟨x1, y1, n1, e1, t1⟩ := hf 1 _ rfl
    obtain ⟨x2, y2, n2, e2, t2⟩ := hf 2 _ rfl
    obtain ⟨t, rfl, w0⟩ := int_cell Try.underlying3 t0
    obtain ⟨nm, rfl, _⟩ := text_cell Try.underlying9 t1
    obtain ⟨n, rfl, w2⟩ := int_cell Try.underlying3 t2
    obtain rfl := Option.some.inj e0
    obtain rfl := Option.some.inj e1
    obtain rfl := Option.some.inj e2
    exact ⟨t, nm, n, rfl, w0, w2⟩
theorem cell_spot {w : World} {a : Addr} {v : Value} (h : w.cell? a = some v) : a.spot = none := by
  unfold World.cell? at h
  cases hs : a.spot with
  | none => rfl
  | some q =>
    rw [hs] at h
    split at h <;> simp at h
/-- A row of texts as an argument, wherever in its block it begins. -/
theorem open_strs {H : Type} {enc : TypeId × Value → H} {w : World} {base : Nat} {spare : Nat → Bool} {held : Bool} {r : Reach} {b0 : Nat} {v : Value} {d : DataW H} {p : List MemPlace}
    (hv : Value.okWide Try.prog w r b0 93 v) (h : DataW.Trod enc Try.prog w base spare held 93 v d p) :
    ∃ ls : List WordM.L, Strs w.heap.size w v ls := by
  obtain ⟨a, len, cap, rfl⟩ := okWide_slice Try.underlying93 hv
  obtain ⟨fuel, hf⟩ := h
  rcases open_strings Try.underlying93 Try.underlying9 (by kernel_rfl) hf with ⟨e, _⟩ | ⟨a', len', cap', ss, e, hb, hl, hm, hss, _, hcell, _⟩
  · simp [Value.cells] at e
    obtain ⟨rfl, rfl, rfl⟩ := e
    exact ⟨[], none, 0, rfl, Nat.le_refl _, by unfold maxLen; omega, fun k => absurd k (by simp)⟩
  · simp [Value.cells] at e
    obtain ⟨rfl, rfl, rfl⟩ := e
    have hle : len ≤ ss.length := by rw [hss]; split <;> omega
    have hlen : ((ss.take len).map (fun s => s.data.toList)).length = len := by simp; omega
    refine ⟨(ss.take len).map (fun s => s.data.toList), some a', cap, by rw [hlen], by rw [hlen]; exact hl, hm, fun k => ?_⟩
    rw [hlen] at k
    obtain ⟨b, f, sp⟩ := a'
    have c0 := hcell 0 (by omega)
    rw [Addr.add_zero'] at c0
    obtain rfl : sp = none := cell_spot c0
    refine ⟨b, f, rfl, lt_of_cell c0, fun j hj => ?_⟩
    have hj' : j < ss.length := by omega
    have cj := hcell j hj'
    rw [Addr.add_lit] at cj
    rw [cj]
    simp [sv, List.getD, List.getElem?_eq_getElem hj']
end Go.Proofs.Ytaelfjphgdlbcaa
namespace Go.Proofs.Ytaelfjphgdlbcaa
open Go Go.ChangeShapes Go.WideShapes Go.RowKit Go.Deep
set_option linter.unusedVariables false
set_option maxRecDepth 100000
set_option linter.unusedSimpArgs false
open WordM (L)
open VM

theorem list_of {α : Type} {P : Nat → α → Prop} : ∀ {n : Nat}, (∀ i, i < n → ∃ x, P i x) → ∃ xs : List α, xs.length = n ∧ ∀ i (h : i < xs.length), P i xs[i]
  | 0, _ => ⟨[], rfl, fun i h => absurd h (Nat.not_lt_zero i)⟩
  | n + 1, h => by
    obtain ⟨xs, hl, hx⟩ := list_of (fun i hi => h i (Nat.lt_succ_of_lt hi))
    obtain ⟨x, hx0⟩ := h n (Nat.lt_succ_self n)
    refine ⟨xs ++ [x], by simp [hl], fun i hi => ?_⟩
    by_cases e : i < xs.length
    · rw [List.getElem_append_left e]; exact hx i e
    · have e2 : i = xs.length := by simp at hi; omega
      subst e2
      rw [List.getElem_append_right (Nat.le_refl _)]
      simpa [hl] using hx0
section
variable {H : Type} {enc : TypeId × Value → H} {P : Program} {w : World} {base : Nat} {spare : Nat → Bool} {held : Bool}
/-- A row whose elements are what a test says of their cells. -/
theorem open_row {α : Type} {n : Nat} {t e : TypeId} {fuel : Nat} {v : Value} {x : DataW H × List MemPlace} (Pr : Nat → Nat → α → Prop) (ht : P.underlying t = some (.slice e)) (hn : P.cellsOf e = n) (hpos : 0 < n)
    (elem : ∀ (b off : Nat) (cs : List Value) (y : DataW H × List MemPlace) (k : Nat), cs.length = n → (∀ i, i < n → w.cell? ⟨b, off + i, none⟩ = cs[i]?) → DataW.trod enc P w base spare held k e cs = some y → ∃ a : α, Pr b off a)
    (h : DataW.trod enc P w base spare held fuel t [v] = some x) :
    ∃ (xs : List α) (A : Option Addr) (c : Nat), v = .slice A xs.length c ∧ xs.length ≤ c ∧ c ≤ maxLen ∧ (0 < xs.length → ∃ b f, A = some ⟨b, f, none⟩ ∧ b < w.heap.size ∧ ∀ j (h : j < xs.length), Pr b (f + j * n) xs[j]) ∧ (A = none → c = 0) := by
  rcases DataW.trod_slice ht h with ⟨e0, _⟩ | ⟨a, len, cap, elems, rest, k, _, e0, _, hb, hl, hm, hlen, hel, _, _⟩
  · injection e0 with e0 _
    exact ⟨[], none, 0, by rw [e0]; rfl, Nat.le_refl _, by unfold maxLen; omega, fun c => absurd c (by simp), fun _ => rfl⟩
  · injection e0 with e0 _
    subst e0
    by_cases hz : len = 0
    · subst hz
      exact ⟨[], some a, cap, rfl, hl, hm, fun c => absurd c (by simp), fun c => (by cases c)⟩
    have each : ∀ i, i < len → ∃ cs y, w.cells? base (a.add (i * n)) n = some cs ∧ DataW.trod enc P w base spare held k e cs = some y := by
      intro i hi
      have h1 := hel i hi
      rw [hn, List.getElem?_eq_getElem (by omega), Option.bind_eq_some_iff] at h1
      obtain ⟨cs, h2, h3⟩ := h1
      exact ⟨cs, _, h2, h3⟩
    obtain ⟨b, f, sp⟩ := a
    have hsp : sp = none ∧ b < w.heap.size := by
      obtain ⟨cs, y, h2, h3⟩ := each 0 (by omega)
      obtain ⟨_, hcl, hcell⟩ := World.cells?_some h2
      have h4 := hcell 0 (by omega)
      rw [List.getElem?_eq_getElem (by omega)] at h4
      have h5 := cell_spot h4
      simp [Addr.add] at h5
      subst h5
      refine ⟨rfl, ?_⟩
      simp [Addr.add] at h4
      exact lt_of_cell h4
    obtain ⟨rfl, hbl⟩ := hsp
    have each2 : ∀ i, i < len → ∃ a : α, Pr b (f + i * n) a := by
      intro i hi
      obtain ⟨cs, y, h2, h3⟩ := each i hi
      obtain ⟨_, hcl, hcell⟩ := World.cells?_some h2
      refine elem b (f + i * n) cs y k hcl (fun j hj => ?_) h3
      have := hcell j hj
      rw [Addr.add_lit, Addr.add_lit] at this
      exact this
    obtain ⟨xs, hxl, hxs⟩ := list_of each2
    exact ⟨xs, some ⟨b, f, none⟩, cap, by rw [hxl], by rw [hxl]; exact hl, hm, fun _ => ⟨b, f, rfl, hbl, hxs⟩, fun c => (by cases c)⟩
/-- The cells of a struct of one-cell fields. -/
theorem open_cells {t : TypeId} {fs : Array Field} {cs : List Value} {x : DataW H × List MemPlace} {fuel : Nat} (hs : P.underlying t = some (.struct fs)) (hone : oneCellFields P fs = true)
    (h : DataW.trod enc P w base spare held fuel t cs = some x) (hC : cs.length = fs.size) :
    ∀ (j : Nat) (f : Field), fs[j]? = some f → ∃ (y : Value) (z : DataW H × List MemPlace) (n : Nat), cs[j]? = some y ∧ DataW.trod enc P w base spare held n f.type [y] = some z := by
  obtain ⟨xs, n, _, _, _, hlen, hg⟩ := DataW.trod_struct hs h
  intro j f hj
  obtain ⟨ho, hk⟩ := hone_of hone j f hj
  have hjl : j < fs.size := (Array.getElem?_eq_some_iff.1 hj).1
  have h1 := hg j f hj
  rw [ho, hk] at h1
  have h2 : (cs.drop j).take 1 = [cs[j]'(by omega)] := by
    rw [List.drop_eq_getElem_cons (by omega)]; rfl
  have hx : xs[j]? = some (xs[j]'(by omega)) := List.getElem?_eq_getElem (by omega)
  rw [h2] at h1
  exact ⟨_, _, n, List.getElem?_eq_getElem (by omega), h1.trans hx⟩
end
section
variable {H : Type} {enc : TypeId × Value → H} {w : World} {base : Nat} {spare : Nat → Bool} {held : Bool}
theorem elem_cell (b off : Nat) (cs : List Value) (y : DataW H × List MemPlace) (k : Nat) (hl : cs.length = 2) (hc : ∀ i, i < 2 → w.cell? ⟨b, off + i, none⟩ = cs[i]?) (h : DataW.trod enc Try.prog w base spare held k 62 cs = some y) : ∃ a : L × Int, ClAt w b off a := by
  have hf := open_cells Try.underlying62 (by kernel_rfl) h hl
  match cs, hl with
  | [c0, c1], _ =>
    obtain ⟨x0, y0, n0, e0, t0⟩ := hf 0 _ rfl
    obtain ⟨x1, y1, n1, e1, t1⟩ := hf 1 _ rfl
    obtain ⟨s, rfl, _⟩ := text_cell Try.underlying9 t0
    obtain ⟨n, rfl, _⟩ := int_cell Try.underlying3 t1
    obtain rfl := Option.some.inj e0
    obtain rfl := Option.some.inj e1
    exact ⟨(s.data.toList, n), hc 0 (by decide), hc 1 (by decide)⟩
theorem elem_atom (b off : Nat) (cs : List Value) (y : DataW H × List MemPlace) (k : Nat) (hl : cs.length = 3) (hc : ∀ i, i < 3 → w.cell? ⟨b, off + i, none⟩ = cs[i]?) (h : DataW.trod enc Try.prog w base spare held k 64 cs = some y) : ∃ a : AtomM.At, AmAt w b off a ∧ NumM.inR a.t := by
  have hf := open_cells Try.underlying64 (by kernel_rfl) h hl
  match cs, hl with
  | [c0, c1, c2], _ =>
    obtain ⟨x0, y0, n0, e0, t0⟩ := hf 0 _ rfl
    obtain ⟨x1, y1, n1, e1, t1⟩ := hf 1 _ rfl
    obtain ⟨x2, y2, n2, e2, t2⟩ := hf 2 _ rfl
    obtain ⟨t, rfl, wt⟩ := int_cell Try.underlying3 t0
    obtain ⟨s, rfl, _⟩ := text_cell Try.underlying9 t1
    obtain ⟨n, rfl, _⟩ := int_cell Try.underlying3 t2
    obtain rfl := Option.some.inj e0
    obtain rfl := Option.some.inj e1
    obtain rfl := Option.some.inj e2
    exact ⟨⟨t, s.data.toList, n⟩, ⟨hc 0 (by decide), hc 1 (by decide), hc 2 (by decide)⟩, wt⟩
theorem elem_line (b off : Nat) (cs : List Value) (y : DataW H × List MemPlace) (k : Nat) (hl : cs.length = 5) (hc : ∀ i, i < 5 → w.cell? ⟨b, off + i, none⟩ = cs[i]?) (h : DataW.trod enc Try.prog w base spare held k 60 cs = some y) : ∃ a : OpsM.Ln, LnAt w b off a := by
  have hf := open_cells Try.underlying60 (by kernel_rfl) h hl
  match cs, hl with
  | [c0, c1, c2, c3, c4], _ =>
    obtain ⟨x0, y0, n0, e0, t0⟩ := hf 0 _ rfl
    obtain ⟨x1, y1, n1, e1, t1⟩ := hf 1 _ rfl
    obtain ⟨x2, y2, n2, e2, t2⟩ := hf 2 _ rfl
    obtain ⟨x3, y3, n3, e3, t3⟩ := hf 3 _ rfl
    obtain ⟨x4, y4, n4, e4, t4⟩ := hf 4 _ rfl
    obtain ⟨op, rfl, _⟩ := int_cell Try.underlying3 t0
    obtain ⟨r, rfl, _⟩ := text_cell Try.underlying9 t1
    obtain ⟨o, rfl, _⟩ := text_cell Try.underlying9 t2
    obtain ⟨lb, rfl, _⟩ := text_cell Try.underlying9 t3
    obtain ⟨n, rfl, _⟩ := int_cell Try.underlying3 t4
    obtain rfl := Option.some.inj e0
    obtain rfl := Option.some.inj e1
    obtain rfl := Option.some.inj e2
    obtain rfl := Option.some.inj e3
    obtain rfl := Option.some.inj e4
    exact ⟨⟨op, r.data.toList, o.data.toList, lb.data.toList, n⟩, hc 0 (by decide), hc 1 (by decide), hc 2 (by decide), hc 3 (by decide), hc 4 (by decide)⟩
theorem open_lines {fuel : Nat} {v : Value} {x : DataW H × List MemPlace} (h : DataW.trod enc Try.prog w base spare held fuel 56 [v] = some x) : ∃ ls, Lns w.heap.size w v ls ∧ NilZ v := by
  obtain ⟨xs, A, c, e, h1, h2, h3, h4⟩ := open_row (n := 5) (LnAt w) Try.underlying56 (by kernel_rfl) (by decide) elem_line h
  exact ⟨xs, ⟨A, c, e, h1, h2, h3⟩, fun n c' e' => by rw [e] at e'; injection e' with e1 _ e3; rw [← e3]; exact h4 e1⟩
theorem elem_thread (b off : Nat) (cs : List Value) (y : DataW H × List MemPlace) (k : Nat) (hl : cs.length = 1) (hc : ∀ i, i < 1 → w.cell? ⟨b, off + i, none⟩ = cs[i]?) (h : DataW.trod enc Try.prog w base spare held k 58 cs = some y) : ∃ ls, ThAt w.heap.size w b off ls ∧ NilAt w b off := by
  have hf := open_cells Try.underlying58 (by kernel_rfl) h hl
  match cs, hl with
  | [c0], _ =>
    obtain ⟨x0, y0, n0, e0, t0⟩ := hf 0 _ rfl
    obtain rfl := Option.some.inj e0
    obtain ⟨ls, hL, hN⟩ := open_lines t0
    have hc0 : w.cell? ⟨b, off, none⟩ = some c0 := hc 0 (by decide)
    exact ⟨ls, ⟨c0, hc0, hL⟩, fun u hu => by rw [hc0] at hu; injection hu with hu; subst hu; exact hN⟩
/-- A program as an argument. -/
theorem open_file2 {r : Reach} {b0 : Nat} {v : Value} {d : DataW H} {p : List MemPlace} (hv : Value.okWide Try.prog w r b0 30 v) (h : DataW.Trod enc Try.prog w base spare held 30 v d p) :
    ∃ F : Fl, FlV w.heap.size w v F ∧ IntsOk F ∧ ThsN w v := by
  obtain ⟨cs, rfl, hsz, hf⟩ := open_fields Try.underlying30 (by kernel_rfl) (by kernel_rfl) hv h
  obtain ⟨l⟩ := cs
  match l, hsz with
  | [c0, c1, c2, c3, c4], _ =>
    obtain ⟨x0, y0, n0, e0, t0⟩ := hf 0 _ rfl
    obtain ⟨x1, y1, n1, e1, t1⟩ := hf 1 _ rfl
    obtain ⟨x2, y2, n2, e2, t2⟩ := hf 2 _ rfl
    obtain ⟨x3, y3, n3, e3, t3⟩ := hf 3 _ rfl
    obtain ⟨x4, y4, n4, e4, t4⟩ := hf 4 _ rfl
    obtain ⟨s, rfl, _⟩ := text_cell Try.underlying9 t0
    obtain rfl := Option.some.inj e0
    obtain rfl := Option.some.inj e1
    obtain rfl := Option.some.inj e2
    obtain rfl := Option.some.inj e3
    obtain rfl := Option.some.inj e4
    obtain ⟨al, e3', _⟩ := DataW.trod_bool Try.underlying4 t3
    injection e3' with e3' _
    subst e3'
    obtain ⟨ic, A1, k1, rfl, a1, a2, a3, -⟩ := open_row (n := 2) (ClAt w) Try.underlying26 (by kernel_rfl) (by decide) elem_cell t1
    obtain ⟨ts, A2, k2, rfl, b1, b2, b3, -⟩ := open_row (n := 1) (fun b f ls => ThAt w.heap.size w b f ls ∧ NilAt w b f) Try.underlying27 (by kernel_rfl) (by decide) elem_thread t2
    obtain ⟨am, A3, k3, rfl, g1, g2, g3, -⟩ := open_row (n := 3) (fun b f a => AmAt w b f a ∧ NumM.inR a.t) Try.underlying28 (by kernel_rfl) (by decide) elem_atom t4
    refine ⟨⟨s.data.toList, ic, ts, am, al⟩, ⟨_, _, _, rfl, ⟨A1, k1, rfl, a1, a2, a3⟩, ⟨A2, k2, rfl, b1, b2, fun k => ?_⟩, ⟨A3, k3, rfl, g1, g2, fun k => ?_⟩⟩, fun a ha => ?_, ?_⟩
    · obtain ⟨b, f, e, h4, h5⟩ := b3 k
      exact ⟨b, f, e, h4, fun j hj => by have := (h5 j hj).1; rw [Nat.mul_one] at this; exact this⟩
    · obtain ⟨b, f, e, h4, h5⟩ := g3 k
      exact ⟨b, f, e, h4, fun j hj => (h5 j hj).1⟩
    · obtain ⟨j, hj, rfl⟩ := List.mem_iff_getElem.1 ha
      have hj' : j < am.length := hj
      obtain ⟨b, f, e, h4, h5⟩ := g3 (by omega)
      exact (h5 j hj').2
    · intro nm vi bt ft n c al vc ev j hj
      unfold flv at ev
      injection ev with ev
      have e2 : (.slice A2 ts.length k2 : Value) = .slice (some ⟨bt, ft, none⟩) n c := by
        have := congrArg (fun (a : Array Value) => a[2]?) ev
        simpa using this
      injection e2 with e5 e6 _
      subst e6
      obtain ⟨b, f, e, h4, h5⟩ := b3 (by omega)
      rw [e5] at e
      injection e with e
      injection e with e7 e8
      subst e7; subst e8
      have := (h5 j hj).2
      rw [Nat.mul_one] at this; exact this
theorem open_file {r : Reach} {b0 : Nat} {v : Value} {d : DataW H} {p : List MemPlace} (hv : Value.okWide Try.prog w r b0 30 v) (h : DataW.Trod enc Try.prog w base spare held 30 v d p) :
    ∃ F : Fl, FlV w.heap.size w v F ∧ IntsOk F := by
  obtain ⟨F, h1, h2, _⟩ := open_file2 hv h
  exact ⟨F, h1, h2⟩
end
end Go.Proofs.Ytaelfjphgdlbcaa
namespace Go.Proofs.Ytaelfjphgdlbcaa
open Go Go.ChangeShapes Go.WideShapes Go.RowKit Go.Deep
set_option linter.unusedVariables false
set_option maxRecDepth 100000
set_option linter.unusedSimpArgs false
open WordM (L)
open CodM (St Pg)

def StIn (s : St) : Prop := NumM.inR s.op ∧ NumM.inR s.reg ∧ NumM.inR s.loc ∧ NumM.inR s.n ∧ NumM.inR s.to
/-- What is in range in a code. -/
structure PgIn (P : Pg) : Prop where
  init : ∀ n ∈ P.init, NumM.inR n
  ths : ∀ ss ∈ P.ths, ∀ s ∈ ss, StIn s
/-- Each row of steps that is nil has no room. -/
def PgN (w : World) (v : Value) : Prop := ∀ vi b f n c, v = .agg #[vi, .slice (some ⟨b, f, none⟩) n c] → ∀ j, j < n → NilAt w b (f + j)
section
variable {H : Type} {enc : TypeId × Value → H} {w : World} {base : Nat} {spare : Nat → Bool} {held : Bool}
theorem elem_step (b off : Nat) (cs : List Value) (y : DataW H × List MemPlace) (k : Nat) (hl : cs.length = 5) (hc : ∀ i, i < 5 → w.cell? ⟨b, off + i, none⟩ = cs[i]?) (h : DataW.trod enc Try.prog w base spare held k 53 cs = some y) : ∃ a : St, StAt w b off a ∧ StIn a := by
  have hf := open_cells Try.underlying53 (by kernel_rfl) h hl
  match cs, hl with
  | [c0, c1, c2, c3, c4], _ =>
    obtain ⟨x0, y0, n0, e0, t0⟩ := hf 0 _ rfl
    obtain ⟨x1, y1, n1, e1, t1⟩ := hf 1 _ rfl
    obtain ⟨x2, y2, n2, e2, t2⟩ := hf 2 _ rfl
    obtain ⟨x3, y3, n3, e3, t3⟩ := hf 3 _ rfl
    obtain ⟨x4, y4, n4, e4, t4⟩ := hf 4 _ rfl
    obtain ⟨op, rfl, w0⟩ := int_cell Try.underlying3 t0
    obtain ⟨r, rfl, w1⟩ := int_cell Try.underlying3 t1
    obtain ⟨o, rfl, w2⟩ := int_cell Try.underlying3 t2
    obtain ⟨m, rfl, w3⟩ := int_cell Try.underlying3 t3
    obtain ⟨n, rfl, w4⟩ := int_cell Try.underlying3 t4
    obtain rfl := Option.some.inj e0
    obtain rfl := Option.some.inj e1
    obtain rfl := Option.some.inj e2
    obtain rfl := Option.some.inj e3
    obtain rfl := Option.some.inj e4
    exact ⟨⟨op, r, o, m, n⟩, ⟨hc 0 (by decide), hc 1 (by decide), hc 2 (by decide), hc 3 (by decide), hc 4 (by decide)⟩, w0, w1, w2, w3, w4⟩
theorem elem_num (b off : Nat) (cs : List Value) (y : DataW H × List MemPlace) (k : Nat) (hl : cs.length = 1) (hc : ∀ i, i < 1 → w.cell? ⟨b, off + i, none⟩ = cs[i]?) (h : DataW.trod enc Try.prog w base spare held k 3 cs = some y) : ∃ a : Int, IntAt w b off a ∧ NumM.inR a := by
  match cs, hl with
  | [c0], _ =>
    obtain ⟨n, rfl, wn⟩ := int_cell Try.underlying3 h
    exact ⟨n, hc 0 (by decide), wn⟩
theorem open_steps {fuel : Nat} {v : Value} {x : DataW H × List MemPlace} (h : DataW.trod enc Try.prog w base spare held fuel 50 [v] = some x) : ∃ ss, Sts w.heap.size w v ss ∧ (∀ s ∈ ss, StIn s) ∧ NilZ v := by
  obtain ⟨xs, A, c, e, h1, h2, h3, h4⟩ := open_row (n := 5) (fun b off a => StAt w b off a ∧ StIn a) Try.underlying50 (by kernel_rfl) (by decide) elem_step h
  refine ⟨xs, ⟨A, c, e, h1, h2, fun k => ?_⟩, fun s hs => ?_, fun n c' e' => by rw [e] at e'; injection e' with e1 _ e3; rw [← e3]; exact h4 e1⟩
  · obtain ⟨b, f, e1, e2, e3⟩ := h3 k
    exact ⟨b, f, e1, e2, fun j hj => (e3 j hj).1⟩
  · obtain ⟨j, hj, rfl⟩ := List.mem_iff_getElem.1 hs
    obtain ⟨b, f, e1, e2, e3⟩ := h3 (by omega)
    exact (e3 j hj).2
theorem open_nums {fuel : Nat} {v : Value} {x : DataW H × List MemPlace} (h : DataW.trod enc Try.prog w base spare held fuel 22 [v] = some x) : ∃ ns, Ints w.heap.size w v ns ∧ (∀ n ∈ ns, NumM.inR n) ∧ NilZ v := by
  obtain ⟨xs, A, c, e, h1, h2, h3, h4⟩ := open_row (n := 1) (fun b off a => IntAt w b off a ∧ NumM.inR a) Try.underlying22 (by kernel_rfl) (by decide) elem_num h
  refine ⟨xs, ⟨A, c, e, h1, h2, fun k => ?_⟩, fun s hs => ?_, fun n c' e' => by rw [e] at e'; injection e' with e1 _ e3; rw [← e3]; exact h4 e1⟩
  · obtain ⟨b, f, e1, e2, e3⟩ := h3 k
    exact ⟨b, f, e1, e2, fun j hj => by have := (e3 j hj).1; rwa [Nat.mul_one] at this⟩
  · obtain ⟨j, hj, rfl⟩ := List.mem_iff_getElem.1 hs
    obtain ⟨b, f, e1, e2, e3⟩ := h3 (by omega)
    exact (e3 j hj).2
theorem elem_ss (b off : Nat) (cs : List Value) (y : DataW H × List MemPlace) (k : Nat) (hl : cs.length = 1) (hc : ∀ i, i < 1 → w.cell? ⟨b, off + i, none⟩ = cs[i]?) (h : DataW.trod enc Try.prog w base spare held k 50 cs = some y) : ∃ ss, SsAt w.heap.size w b off ss ∧ (∀ s ∈ ss, StIn s) ∧ NilAt w b off := by
  match cs, hl with
  | [c0], _ =>
    obtain ⟨ss, hL, hI, hN⟩ := open_steps h
    have hc0 : w.cell? ⟨b, off, none⟩ = some c0 := hc 0 (by decide)
    exact ⟨ss, ⟨c0, hc0, hL⟩, hI, fun u hu => by rw [hc0] at hu; injection hu with hu; subst hu; exact hN⟩
theorem open_prog {r : Reach} {b0 : Nat} {v : Value} {d : DataW H} {p : List MemPlace} (hv : Value.okWide Try.prog w r b0 25 v) (h : DataW.Trod enc Try.prog w base spare held 25 v d p) :
    ∃ P : Pg, PgV w.heap.size w v P ∧ PgIn P ∧ PgN w v := by
  obtain ⟨cs, rfl, hsz, hf⟩ := open_fields Try.underlying25 (by kernel_rfl) (by kernel_rfl) hv h
  obtain ⟨x0, y0, n0, e0, t0⟩ := hf 0 _ rfl
  obtain ⟨x1, y1, n1, e1, t1⟩ := hf 1 _ rfl
  obtain ⟨ns, hN, hNI, _⟩ := open_nums t0
  obtain ⟨ts, A, c, e, h1, h2, h3, h4⟩ := open_row (n := 1) (fun b off a => SsAt w.heap.size w b off a ∧ (∀ s ∈ a, StIn s) ∧ NilAt w b off) Try.underlying23 (by kernel_rfl) (by decide) elem_ss t1
  have hcs : cs = #[x0, x1] := by
    have hs2 : cs.size = 2 := hsz.trans rfl
    apply Array.ext
    · rw [hs2]; rfl
    · intro i hi hi2
      have : i < 2 := by rw [hs2] at hi; exact hi
      match i, this with
      | 0, _ => exact Option.some.inj ((Array.getElem?_eq_getElem hi).symm.trans e0)
      | 1, _ => exact Option.some.inj ((Array.getElem?_eq_getElem hi).symm.trans e1)
  subst hcs
  subst e
  refine ⟨⟨ns, ts⟩, ⟨_, _, rfl, hN, A, c, rfl, h1, h2, fun k => ?_⟩, ⟨hNI, fun ss hs => ?_⟩, fun vi b f n c' e' j hj => ?_⟩
  · obtain ⟨b, f, q1, q2, q3⟩ := h3 k
    exact ⟨b, f, q1, q2, fun j hj => by have := (q3 j hj).1; rwa [Nat.mul_one] at this⟩
  · obtain ⟨j, hj, rfl⟩ := List.mem_iff_getElem.1 hs
    have hj' : j < ts.length := hj
    obtain ⟨b, f, q1, q2, q3⟩ := h3 (by omega)
    exact (q3 j hj').2.1
  · injection e' with e'
    have e2 : (.slice A ts.length c : Value) = .slice (some ⟨b, f, none⟩) n c' := by
      have := congrArg (fun (a : Array Value) => a[1]?) e'
      simpa using this
    injection e2 with e5 e6 _
    subst e6
    obtain ⟨b', f', q1, q2, q3⟩ := h3 (by omega)
    rw [e5] at q1
    injection q1 with q1
    injection q1 with q1 q4
    subst q1; subst q4
    have := (q3 j hj).2.2
    rwa [Nat.mul_one] at this
end
end Go.Proofs.Ytaelfjphgdlbcaa
