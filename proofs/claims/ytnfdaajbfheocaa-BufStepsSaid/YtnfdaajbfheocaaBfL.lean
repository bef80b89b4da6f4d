/-
  ROWS OF WRITES AND OF NUMBERS in memory, and what a law's arguments hold.
-/
import Derived.Test.YtnfdaajbfheocaaBfB
import Derived.Test.YtnfdaajbfheocaaBfM
namespace Go.Proofs.Ytnfdaajbfheocaa
open Go Go.ChangeShapes Go.WideShapes Go.RowKit Go.Deep
set_option linter.unusedVariables false
set_option linter.unusedSimpArgs false
set_option maxRecDepth 100000
open BfM
def wrC (w : Wr) : List Value := [.int .i64 w.loc, .int .i64 w.n]
def inC (n : Int) : List Value := [.int .i64 n]
theorem wrC_len (w : Wr) : (wrC w).length = 2 := rfl
theorem inC_len (n : Int) : (inC n).length = 1 := rfl
abbrev Wrs (B : Nat) (w : World) (v : Value) (b : List Wr) : Prop := Rw wrC 2 B w v b
abbrev Ints (B : Nat) (w : World) (v : Value) (m : List Int) : Prop := Rw inC 1 B w v m
abbrev OwnW (base : Nat) (w : World) (v : Value) (b : List Wr) : Prop := w.ownsRow base 24 2 v b.length (b.flatMap wrC)
abbrev OwnI (base : Nat) (w : World) (v : Value) (m : List Int) : Prop := w.ownsRow base 3 1 v m.length (m.flatMap inC)
theorem wr_at {B : Nat} {w : World} {A : Option Addr} {c : Nat} {b : List Wr} (h : 0 < b.length → ∃ g f, A = some ⟨g, f, none⟩ ∧ g < B ∧ ∀ j u, (b.flatMap wrC)[j]? = some u → w.cell? ⟨g, f + j, none⟩ = some u) :
    0 < b.length → ∃ g f, A = some ⟨g, f, none⟩ ∧ g < B ∧ ∀ j (hj : j < b.length), w.cell? ⟨g, f + j * 2, none⟩ = some (.int .i64 b[j].loc) ∧ w.cell? ⟨g, f + j * 2 + 1, none⟩ = some (.int .i64 b[j].n) := by
  intro k
  obtain ⟨g, f, e, hg, hc⟩ := h k
  refine ⟨g, f, e, hg, fun j hj => ⟨?_, ?_⟩⟩
  · exact hc (j * 2) _ ((flat_at wrC_len b j 0 hj (by omega)).trans rfl)
  · exact hc (j * 2 + 1) _ ((flat_at wrC_len b j 1 hj (by omega)).trans rfl)
theorem in_at {B : Nat} {w : World} {A : Option Addr} {c : Nat} {m : List Int} (h : 0 < m.length → ∃ g f, A = some ⟨g, f, none⟩ ∧ g < B ∧ ∀ j u, (m.flatMap inC)[j]? = some u → w.cell? ⟨g, f + j, none⟩ = some u) :
    0 < m.length → ∃ g f, A = some ⟨g, f, none⟩ ∧ g < B ∧ ∀ j (hj : j < m.length), w.cell? ⟨g, f + j, none⟩ = some (.int .i64 m[j]) := by
  intro k
  obtain ⟨g, f, e, hg, hc⟩ := h k
  refine ⟨g, f, e, hg, fun j hj => ?_⟩
  have := hc (j * 1) _ ((flat_at inC_len m j 0 hj (by omega)).trans rfl)
  rw [Nat.mul_one] at this; exact this
theorem one_w (b : List Wr) : ∀ u ∈ b.flatMap wrC, u.oneCell' = true := fun u hu => by
  obtain ⟨x, _, hx⟩ := List.mem_flatMap.1 hu
  simp only [wrC, List.mem_cons, List.not_mem_nil, or_false] at hx
  rcases hx with rfl | rfl <;> rfl
theorem one_i (b : List Int) : ∀ u ∈ b.flatMap inC, u.oneCell' = true := fun u hu => by
  obtain ⟨x, _, hx⟩ := List.mem_flatMap.1 hu
  simp only [inC, List.mem_cons, List.not_mem_nil, or_false] at hx
  subst hx; rfl
/-- The cells of a source of append or copy. -/
theorem src_at {A : Type} {one : A → List Value} {s B c : Nat} {w W : World} {Ad : Option Addr} {xs : List A} (h1 : ∀ a, (one a).length = s) (h0 : Ad = none → xs.length = 0 ∧ c = 0)
    (h : 0 < xs.length → ∃ g f, Ad = some ⟨g, f, none⟩ ∧ g < B ∧ ∀ j u, (xs.flatMap one)[j]? = some u → w.cell? ⟨g, f + j, none⟩ = some u) (hB : Below B w W) :
    ∀ ad, Ad = some ad → ∀ j u, (xs.flatMap one)[j]? = some u → W.cell? (ad.add j) = some u := by
  intro ad e j u hu
  have hp : 0 < xs.length := by
    rcases Nat.eq_zero_or_pos xs.length with k | k
    · rw [List.eq_nil_of_length_eq_zero k] at hu; cases hu
    · exact k
  obtain ⟨g, f, e2, hg, hc⟩ := h hp
  rw [e] at e2; injection e2 with e2; subst e2
  rw [Addr.add_lit]
  exact (hB.cell (p := ⟨g, f + j, none⟩) hg).trans (hc j u hu)
theorem info_int : (Try.prog.info? 3).map (fun i => (i.zero, i.size, i.bytes)) = some (some (.int .i64 0), 1, 8) := by kernel_rfl
theorem info_wr : (Try.prog.info? 24).map (fun i => (i.zero, i.size, i.bytes)) = some (some (.agg #[.int .i64 0, .int .i64 0]), 2, 16) := by kernel_rfl
theorem info_parts {P : Program} {t : TypeId} {z : Value} {s b : Nat} (h : (P.info? t).map (fun i => (i.zero, i.size, i.bytes)) = some (some z, s, b)) : ∃ i, P.info? t = some i ∧ i.zero = some z ∧ i.size = s ∧ i.bytes = b := by
  obtain ⟨i, hi, e⟩ := Option.map_eq_some_iff.1 h
  injection e with e1 e2
  injection e2 with e2 e3
  exact ⟨i, hi, e1, e2, e3⟩
theorem own_sub {base : Nat} {w w' : World} {v : Value} {b : List Wr} (h : OwnW base w v b) (hb : Below w.heap.size w w') : OwnW base w' v b := own_below h hb
/-! What arguments hold. -/
theorem list_of {α : Type} {P : Nat → α → Prop} : ∀ {n : Nat}, (∀ i, i < n → ∃ x, P i x) → ∃ xs : List α, xs.length = n ∧ ∀ i (h : i < xs.length), P i xs[i]
  | 0, _ => ⟨[], rfl, fun i h => absurd h (Nat.not_lt_zero i)⟩
  | n + 1, h => by
    obtain ⟨xs, hl, hx⟩ := list_of (fun i hi => h i (Nat.lt_succ_of_lt hi))
    obtain ⟨x, hx0⟩ := h n (Nat.lt_succ_self n)
    refine ⟨xs ++ [x], by simp [hl], fun i hi => ?_⟩
    by_cases e : i < xs.length
    · rw [List.getElem_append_left e]; exact hx i e
    · have e2 : i = xs.length := by simp at hi; omega
      subst e2
      rw [List.getElem_append_right (Nat.le_refl _)]
      simpa [hl] using hx0
theorem cell_spot {w : World} {a : Addr} {v : Value} (h : w.cell? a = some v) : a.spot = none := by
  unfold World.cell? at h
  cases hs : a.spot with
  | none => rfl
  | some q =>
    rw [hs] at h
    split at h <;> simp at h
section
variable {H : Type} {enc : TypeId × Value → H} {P : Program} {w : World} {base : Nat} {spare : Nat → Bool} {held : Bool}
theorem int_cell {t : TypeId} {x : Value} {y : DataW H × List MemPlace} {n : Nat} (ht : P.underlying t = some (.int .i64))
    (h : DataW.trod enc P w base spare held n t [x] = some y) : ∃ k, x = .int .i64 k ∧ NumM.inR k := by
  obtain ⟨k, e, _, hw⟩ := DataW.trod_int ht h
  injection e with e _
  exact ⟨k, e, bounds_i64 hw⟩
/-- A row whose elements are what a test says of their cells. -/
theorem open_row {α : Type} {one : α → List Value} {n : Nat} {t e : TypeId} {fuel : Nat} {v : Value} {x : DataW H × List MemPlace} (Pr : α → Prop) (hone : ∀ a, (one a).length = n) (ht : P.underlying t = some (.slice e)) (hn : P.cellsOf e = n) (hpos : 0 < n)
    (elem : ∀ (cs : List Value) (y : DataW H × List MemPlace) (k : Nat), cs.length = n → DataW.trod enc P w base spare held k e cs = some y → ∃ a : α, one a = cs ∧ Pr a)
    (h : DataW.trod enc P w base spare held fuel t [v] = some x) :
    ∃ xs : List α, Rw one n w.heap.size w v xs ∧ ∀ a ∈ xs, Pr a := by
  rcases DataW.trod_slice ht h with ⟨e0, _⟩ | ⟨a, len, cap, elems, rest, k, _, e0, _, hb, hl, hm, hlen, hel, _, _⟩
  · injection e0 with e0 _
    exact ⟨[], by rw [e0]; exact Rw.nil _ _, fun a ha => by cases ha⟩
  · injection e0 with e0 _
    subst e0
    by_cases hz : len = 0
    · subst hz
      exact ⟨[], ⟨some a, cap, rfl, hl, hm, fun c => (by cases c), fun c => absurd c (by simp)⟩, fun a ha => by cases ha⟩
    have each : ∀ i, i < len → ∃ cs y, w.cells? base (a.add (i * n)) n = some cs ∧ DataW.trod enc P w base spare held k e cs = some y := by
      intro i hi
      have h1 := hel i hi
      rw [hn, List.getElem?_eq_getElem (by omega), Option.bind_eq_some_iff] at h1
      obtain ⟨cs, h2, h3⟩ := h1
      exact ⟨cs, _, h2, h3⟩
    obtain ⟨b, f, sp⟩ := a
    have hsp : sp = none ∧ b < w.heap.size := by
      obtain ⟨cs, y, h2, h3⟩ := each 0 (by omega)
      obtain ⟨_, hcl, hcell⟩ := World.cells?_some h2
      have h4 := hcell 0 (by omega)
      rw [List.getElem?_eq_getElem (by omega)] at h4
      have h5 := cell_spot h4
      simp [Addr.add] at h5
      subst h5
      refine ⟨rfl, ?_⟩
      simp [Addr.add] at h4
      exact lt_of_cell h4
    obtain ⟨rfl, hbl⟩ := hsp
    have each2 : ∀ i, i < len → ∃ a : α, Pr a ∧ ∀ j, j < n → w.cell? ⟨b, f + i * n + j, none⟩ = (one a)[j]? := by
      intro i hi
      obtain ⟨cs, y, h2, h3⟩ := each i hi
      obtain ⟨_, hcl, hcell⟩ := World.cells?_some h2
      obtain ⟨a, ha, hp⟩ := elem cs y k hcl h3
      refine ⟨a, hp, fun j hj => ?_⟩
      have := hcell j hj
      rw [Addr.add_lit, Addr.add_lit] at this
      rw [ha]; exact this
    obtain ⟨xs, hxl, hxs⟩ := list_of each2
    refine ⟨xs, ⟨some ⟨b, f, none⟩, cap, by rw [hxl], by rw [hxl]; exact hl, hm, fun c => (by cases c), fun _ => ⟨b, f, rfl, hbl, fun q u hu => ?_⟩⟩, fun a ha => ?_⟩
    · have hq : q < xs.length * n := by rw [← flat_len hone]; exact (List.getElem?_eq_some_iff.1 hu).1
      have h1 : q / n < xs.length := (Nat.div_lt_iff_lt_mul hpos).2 hq
      have h2 : q % n < n := Nat.mod_lt _ hpos
      have e : q = q / n * n + q % n := by rw [Nat.mul_comm]; exact (Nat.div_add_mod q n).symm
      have e2 := (hxs (q / n) h1).2 (q % n) h2
      rw [← flat_at hone xs (q / n) (q % n) h1 h2, ← e, Nat.add_assoc, ← e, hu] at e2
      exact e2
    · obtain ⟨j, hj, rfl⟩ := List.mem_iff_getElem.1 ha
      exact (hxs j hj).1
theorem open_cells {t : TypeId} {fs : Array Field} {cs : List Value} {x : DataW H × List MemPlace} {fuel : Nat} (hs : P.underlying t = some (.struct fs)) (hone : oneCellFields P fs = true)
    (h : DataW.trod enc P w base spare held fuel t cs = some x) (hC : cs.length = fs.size) :
    ∀ (j : Nat) (f : Field), fs[j]? = some f → ∃ (y : Value) (z : DataW H × List MemPlace) (n : Nat), cs[j]? = some y ∧ DataW.trod enc P w base spare held n f.type [y] = some z := by
  obtain ⟨xs, n, _, _, _, hlen, hg⟩ := DataW.trod_struct hs h
  intro j f hj
  obtain ⟨ho, hk⟩ := hone_of hone j f hj
  have hjl : j < fs.size := (Array.getElem?_eq_some_iff.1 hj).1
  have h1 := hg j f hj
  rw [ho, hk] at h1
  have h2 : (cs.drop j).take 1 = [cs[j]'(by omega)] := by
    rw [List.drop_eq_getElem_cons (by omega)]; rfl
  have hx : xs[j]? = some (xs[j]'(by omega)) := List.getElem?_eq_getElem (by omega)
  rw [h2] at h1
  exact ⟨_, _, n, List.getElem?_eq_getElem (by omega), h1.trans hx⟩
end
def WrIn (w : Wr) : Prop := NumM.inR w.loc ∧ NumM.inR w.n
section
variable {H : Type} {enc : TypeId × Value → H} {w : World} {base : Nat} {spare : Nat → Bool} {held : Bool}
theorem elem_wr (cs : List Value) (y : DataW H × List MemPlace) (k : Nat) (hl : cs.length = 2) (h : DataW.trod enc Try.prog w base spare held k 24 cs = some y) : ∃ a : Wr, wrC a = cs ∧ WrIn a := by
  have hf := open_cells Try.underlying24 (by kernel_rfl) h hl
  match cs, hl with
  | [c0, c1], _ =>
    obtain ⟨x0, y0, n0, e0, t0⟩ := hf 0 _ rfl
    obtain ⟨x1, y1, n1, e1, t1⟩ := hf 1 _ rfl
    obtain ⟨o, rfl, w0⟩ := int_cell Try.underlying3 t0
    obtain ⟨m, rfl, w1⟩ := int_cell Try.underlying3 t1
    obtain rfl := Option.some.inj e0
    obtain rfl := Option.some.inj e1
    exact ⟨⟨o, m⟩, rfl, w0, w1⟩
theorem elem_in (cs : List Value) (y : DataW H × List MemPlace) (k : Nat) (hl : cs.length = 1) (h : DataW.trod enc Try.prog w base spare held k 3 cs = some y) : ∃ a : Int, inC a = cs ∧ NumM.inR a := by
  match cs, hl with
  | [c0], _ =>
    obtain ⟨n, rfl, wn⟩ := int_cell Try.underlying3 h
    exact ⟨n, rfl, wn⟩
theorem open_wrs {r : Reach} {b0 : Nat} {v : Value} {d : DataW H} {p : List MemPlace} (hv : Value.okWide Try.prog w r b0 22 v) (h : DataW.Trod enc Try.prog w base spare held 22 v d p) :
    ∃ b : List Wr, Wrs w.heap.size w v b ∧ ∀ x ∈ b, WrIn x := by
  obtain ⟨a, len, cap, rfl⟩ := okWide_slice Try.underlying22 hv
  obtain ⟨fuel, hf⟩ := h
  exact open_row WrIn wrC_len Try.underlying22 (by kernel_rfl) (by decide) elem_wr (by simpa [Value.cells] using hf)
theorem open_ints {r : Reach} {b0 : Nat} {v : Value} {d : DataW H} {p : List MemPlace} (hv : Value.okWide Try.prog w r b0 25 v) (h : DataW.Trod enc Try.prog w base spare held 25 v d p) :
    ∃ m : List Int, Ints w.heap.size w v m ∧ ∀ x ∈ m, NumM.inR x := by
  obtain ⟨a, len, cap, rfl⟩ := okWide_slice Try.underlying25 hv
  obtain ⟨fuel, hf⟩ := h
  exact open_row NumM.inR inC_len Try.underlying25 (by kernel_rfl) (by decide) elem_in (by simpa [Value.cells] using hf)
/-- A struct of one-cell fields, however many. -/
theorem open_fields {P : Program} {r : Reach} {b0 : Nat} {t : TypeId} {fs : Array Field} {v : Value} {d : DataW H} {p : List MemPlace} (hs : P.underlying t = some (.struct fs)) (hone : oneCellFields P fs = true) (hC : P.cellsOf t = fs.size)
    (hv : Value.okWide P w r b0 t v) (h : DataW.Trod enc P w base spare held t v d p) :
    ∃ cs : Array Value, v = .agg cs ∧ cs.size = fs.size ∧ ∀ (j : Nat) (f : Field), fs[j]? = some f → ∃ (x : Value) (y : DataW H × List MemPlace) (n : Nat), cs[j]? = some x ∧ DataW.trod enc P w base spare held n f.type [x] = some y := by
  obtain ⟨cs, rfl, hsz⟩ := okWide_struct hs hv
  obtain ⟨fuel, hf⟩ := h
  obtain ⟨xs, n, _, _, _, hlen, hg⟩ := DataW.trod_struct hs hf
  refine ⟨cs, rfl, hsz.trans hC, fun j f hj => ?_⟩
  obtain ⟨ho, hk⟩ := hone_of hone j f hj
  have hjl : j < fs.size := (Array.getElem?_eq_some_iff.1 hj).1
  have hjc : j < cs.size := by rw [hsz, hC]; exact hjl
  have h1 := hg j f hj
  rw [ho, hk] at h1
  have h2 : (((Value.agg cs).cells.toList).drop j).take 1 = [cs[j]] := by
    show (cs.toList.drop j).take 1 = _
    rw [List.drop_eq_getElem_cons (by simpa using hjc)]
    rfl
  have hx : xs[j]? = some (xs[j]'(by omega)) := List.getElem?_eq_getElem (by omega)
  rw [h2] at h1
  exact ⟨cs[j], xs[j]'(by omega), n, Array.getElem?_eq_getElem hjc, h1.trans hx⟩
theorem open_wr {r : Reach} {b0 : Nat} {v : Value} {d : DataW H} {p : List MemPlace} (hv : Value.okWide Try.prog w r b0 24 v) (h : DataW.Trod enc Try.prog w base spare held 24 v d p) :
    ∃ a : Wr, v = .agg #[.int .i64 a.loc, .int .i64 a.n] ∧ WrIn a := by
  obtain ⟨cs, rfl, hsz, hf⟩ := open_fields Try.underlying24 (by kernel_rfl) (by kernel_rfl) hv h
  obtain ⟨x0, y0, n0, e0, t0⟩ := hf 0 _ rfl
  obtain ⟨x1, y1, n1, e1, t1⟩ := hf 1 _ rfl
  obtain ⟨o, rfl, w0⟩ := int_cell Try.underlying3 t0
  obtain ⟨m, rfl, w1⟩ := int_cell Try.underlying3 t1
  have hcs : cs = #[.int .i64 o, .int .i64 m] := by
    have hs2 : cs.size = 2 := hsz.trans rfl
    apply Array.ext
    · rw [hs2]; rfl
    · intro i hi hi2
      have : i < 2 := by rw [hs2] at hi; exact hi
      match i, this with
      | 0, _ => exact Option.some.inj ((Array.getElem?_eq_getElem hi).symm.trans e0)
      | 1, _ => exact Option.some.inj ((Array.getElem?_eq_getElem hi).symm.trans e1)
  subst hcs
  exact ⟨⟨o, m⟩, rfl, w0, w1⟩
end
end Go.Proofs.Ytnfdaajbfheocaa
