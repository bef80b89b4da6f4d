/-
  ROWS OF WRITES AND OF NUMBERS in memory, and what a law's arguments hold.
-/
import Derived.Test.YtodpajnpnobfmaaScB
import Derived.Test.YtodpajnpnobfmaaRowF
import Derived.Test.YtodpajnpnobfmaaBfM
namespace Go.Proofs.Ytodpajnpnobfmaa
open Go Go.ChangeShapes Go.WideShapes Go.RowKit Go.Deep
set_option linter.unusedVariables false
set_option linter.unusedSimpArgs false
set_option maxRecDepth 100000
open BfM
def wrC (w : Wr) : List Value := [.int .i64 w.loc, .int .i64 w.n]
def nuC (n : Int) : List Value := [.int .i64 n]
theorem wrC_len (w : Wr) : (wrC w).length = 2 := rfl
theorem nuC_len (n : Int) : (nuC n).length = 1 := rfl
abbrev WrR (B : Nat) (w : World) (v : Value) (b : List Wr) : Prop := Rw wrC 2 B w v b
abbrev IntR (B : Nat) (w : World) (v : Value) (m : List Int) : Prop := Rw nuC 1 B w v m
abbrev OwnI (base : Nat) (w : World) (v : Value) (m : List Int) : Prop := w.ownsRow base 3 1 v m.length (m.flatMap nuC)
theorem wr_at {B : Nat} {w : World} {A : Option Addr} {c : Nat} {b : List Wr} (h : 0 < b.length → ∃ g f, A = some ⟨g, f, none⟩ ∧ g < B ∧ ∀ j u, (b.flatMap wrC)[j]? = some u → w.cell? ⟨g, f + j, none⟩ = some u) :
    0 < b.length → ∃ g f, A = some ⟨g, f, none⟩ ∧ g < B ∧ ∀ j (hj : j < b.length), w.cell? ⟨g, f + j * 2, none⟩ = some (.int .i64 b[j].loc) ∧ w.cell? ⟨g, f + j * 2 + 1, none⟩ = some (.int .i64 b[j].n) := by
  intro k
  obtain ⟨g, f, e, hg, hc⟩ := h k
  refine ⟨g, f, e, hg, fun j hj => ⟨?_, ?_⟩⟩
  · exact hc (j * 2) _ ((fl_at wrC_len b j 0 hj (by omega)).trans rfl)
  · exact hc (j * 2 + 1) _ ((fl_at wrC_len b j 1 hj (by omega)).trans rfl)
theorem nu_at {B : Nat} {w : World} {A : Option Addr} {c : Nat} {m : List Int} (h : 0 < m.length → ∃ g f, A = some ⟨g, f, none⟩ ∧ g < B ∧ ∀ j u, (m.flatMap nuC)[j]? = some u → w.cell? ⟨g, f + j, none⟩ = some u) :
    0 < m.length → ∃ g f, A = some ⟨g, f, none⟩ ∧ g < B ∧ ∀ j (hj : j < m.length), w.cell? ⟨g, f + j, none⟩ = some (.int .i64 m[j]) := by
  intro k
  obtain ⟨g, f, e, hg, hc⟩ := h k
  refine ⟨g, f, e, hg, fun j hj => ?_⟩
  have := hc (j * 1) _ ((fl_at nuC_len m j 0 hj (by omega)).trans rfl)
  rw [Nat.mul_one] at this; exact this
theorem one_w (b : List Wr) : ∀ u ∈ b.flatMap wrC, u.oneCell' = true := fun u hu => by
  obtain ⟨x, _, hx⟩ := List.mem_flatMap.1 hu
  simp only [wrC, List.mem_cons, List.not_mem_nil, or_false] at hx
  rcases hx with rfl | rfl <;> rfl
theorem one_nu (b : List Int) : ∀ u ∈ b.flatMap nuC, u.oneCell' = true := fun u hu => by
  obtain ⟨x, _, hx⟩ := List.mem_flatMap.1 hu
  simp only [nuC, List.mem_cons, List.not_mem_nil, or_false] at hx
  subst hx; rfl
/-- The cells of a source of append or copy. -/
theorem src_rw {A : Type} {one : A → List Value} {s B c : Nat} {w W : World} {Ad : Option Addr} {xs : List A} (h1 : ∀ a, (one a).length = s) (h0 : Ad = none → xs.length = 0 ∧ c = 0)
    (h : 0 < xs.length → ∃ g f, Ad = some ⟨g, f, none⟩ ∧ g < B ∧ ∀ j u, (xs.flatMap one)[j]? = some u → w.cell? ⟨g, f + j, none⟩ = some u) (hB : Below B w W) :
    ∀ ad, Ad = some ad → ∀ j u, (xs.flatMap one)[j]? = some u → W.cell? (ad.add j) = some u := by
  intro ad e j u hu
  have hp : 0 < xs.length := by
    rcases Nat.eq_zero_or_pos xs.length with k | k
    · rw [List.eq_nil_of_length_eq_zero k] at hu; cases hu
    · exact k
  obtain ⟨g, f, e2, hg, hc⟩ := h hp
  rw [e] at e2; injection e2 with e2; subst e2
  rw [Addr.add_lit]
  exact (hB.cell (p := ⟨g, f + j, none⟩) hg).trans (hc j u hu)
theorem info_nu : (Try.prog.info? 3).map (fun i => (i.zero, i.size, i.bytes)) = some (some (.int .i64 0), 1, 8) := by kernel_rfl
theorem info_parts {P : Program} {t : TypeId} {z : Value} {s b : Nat} (h : (P.info? t).map (fun i => (i.zero, i.size, i.bytes)) = some (some z, s, b)) : ∃ i, P.info? t = some i ∧ i.zero = some z ∧ i.size = s ∧ i.bytes = b := by
  obtain ⟨i, hi, e⟩ := Option.map_eq_some_iff.1 h
  injection e with e1 e2
  injection e2 with e2 e3
  exact ⟨i, hi, e1, e2, e3⟩
/-! What arguments hold. -/
section
variable {H : Type} {enc : TypeId × Value → H} {P : Program} {w : World} {base : Nat} {spare : Nat → Bool} {held : Bool}
/-- A row whose elements are what a test says of their cells. -/
theorem open_rw {α : Type} {one : α → List Value} {n : Nat} {t e : TypeId} {fuel : Nat} {v : Value} {x : DataW H × List MemPlace} (Pr : α → Prop) (hone : ∀ a, (one a).length = n) (ht : P.underlying t = some (.slice e)) (hn : P.cellsOf e = n) (hpos : 0 < n)
    (elem : ∀ (cs : List Value) (y : DataW H × List MemPlace) (k : Nat), cs.length = n → DataW.trod enc P w base spare held k e cs = some y → ∃ a : α, one a = cs ∧ Pr a)
    (h : DataW.trod enc P w base spare held fuel t [v] = some x) :
    ∃ xs : List α, Rw one n w.heap.size w v xs ∧ ∀ a ∈ xs, Pr a := by
  rcases DataW.trod_slice ht h with ⟨e0, _⟩ | ⟨a, len, cap, elems, rest, k, _, e0, _, hb, hl, hm, hlen, hel, _, _⟩
  · injection e0 with e0 _
    exact ⟨[], by rw [e0]; exact Rw.nil _ _, fun a ha => by cases ha⟩
  · injection e0 with e0 _
    subst e0
    by_cases hz : len = 0
    · subst hz
      exact ⟨[], ⟨some a, cap, rfl, hl, hm, fun c => (by cases c), fun c => absurd c (by simp)⟩, fun a ha => by cases ha⟩
    have each : ∀ i, i < len → ∃ cs y, w.cells? base (a.add (i * n)) n = some cs ∧ DataW.trod enc P w base spare held k e cs = some y := by
      intro i hi
      have h1 := hel i hi
      rw [hn, List.getElem?_eq_getElem (by omega), Option.bind_eq_some_iff] at h1
      obtain ⟨cs, h2, h3⟩ := h1
      exact ⟨cs, _, h2, h3⟩
    obtain ⟨b, f, sp⟩ := a
    have hsp : sp = none ∧ b < w.heap.size := by
      obtain ⟨cs, y, h2, h3⟩ := each 0 (by omega)
      obtain ⟨_, hcl, hcell⟩ := World.cells?_some h2
      have h4 := hcell 0 (by omega)
      rw [List.getElem?_eq_getElem (by omega)] at h4
      have h5 := cell_spot h4
      simp [Addr.add] at h5
      subst h5
      refine ⟨rfl, ?_⟩
      simp [Addr.add] at h4
      exact lt_of_cell h4
    obtain ⟨rfl, hbl⟩ := hsp
    have each2 : ∀ i, i < len → ∃ a : α, Pr a ∧ ∀ j, j < n → w.cell? ⟨b, f + i * n + j, none⟩ = (one a)[j]? := by
      intro i hi
      obtain ⟨cs, y, h2, h3⟩ := each i hi
      obtain ⟨_, hcl, hcell⟩ := World.cells?_some h2
      obtain ⟨a, ha, hp⟩ := elem cs y k hcl h3
      refine ⟨a, hp, fun j hj => ?_⟩
      have := hcell j hj
      rw [Addr.add_lit, Addr.add_lit] at this
      rw [ha]; exact this
    obtain ⟨xs, hxl, hxs⟩ := list_of each2
    refine ⟨xs, ⟨some ⟨b, f, none⟩, cap, by rw [hxl], by rw [hxl]; exact hl, hm, fun c => (by cases c), fun _ => ⟨b, f, rfl, hbl, fun q u hu => ?_⟩⟩, fun a ha => ?_⟩
    · have hq : q < xs.length * n := by rw [← fl_len hone]; exact (List.getElem?_eq_some_iff.1 hu).1
      have h1 : q / n < xs.length := (Nat.div_lt_iff_lt_mul hpos).2 hq
      have h2 : q % n < n := Nat.mod_lt _ hpos
      have e : q = q / n * n + q % n := by rw [Nat.mul_comm]; exact (Nat.div_add_mod q n).symm
      have e2 := (hxs (q / n) h1).2 (q % n) h2
      rw [← fl_at hone xs (q / n) (q % n) h1 h2, ← e, Nat.add_assoc, ← e, hu] at e2
      exact e2
    · obtain ⟨j, hj, rfl⟩ := List.mem_iff_getElem.1 ha
      exact (hxs j hj).1
end
def WrIn (w : Wr) : Prop := NumM.inR w.loc ∧ NumM.inR w.n
section
variable {H : Type} {enc : TypeId × Value → H} {w : World} {base : Nat} {spare : Nat → Bool} {held : Bool}
theorem elem_in (cs : List Value) (y : DataW H × List MemPlace) (k : Nat) (hl : cs.length = 1) (h : DataW.trod enc Try.prog w base spare held k 3 cs = some y) : ∃ a : Int, nuC a = cs ∧ NumM.inR a := by
  match cs, hl with
  | [c0], _ =>
    obtain ⟨n, rfl, wn⟩ := int_cell Try.underlying3 h
    exact ⟨n, rfl, wn⟩
theorem open_intr {r : Reach} {b0 : Nat} {v : Value} {d : DataW H} {p : List MemPlace} (hv : Value.okWide Try.prog w r b0 22 v) (h : DataW.Trod enc Try.prog w base spare held 22 v d p) :
    ∃ m : List Int, IntR w.heap.size w v m ∧ ∀ x ∈ m, NumM.inR x := by
  obtain ⟨a, len, cap, rfl⟩ := okWide_slice Try.underlying22 hv
  obtain ⟨fuel, hf⟩ := h
  exact open_rw NumM.inR nuC_len Try.underlying22 (by kernel_rfl) (by decide) elem_in (by simpa [Value.cells] using hf)
end
end Go.Proofs.Ytodpajnpnobfmaa
