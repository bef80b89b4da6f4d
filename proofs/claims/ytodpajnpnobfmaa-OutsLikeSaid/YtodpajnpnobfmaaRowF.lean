/-
  ARGUMENTS THAT ARE PROGRAMS: what their cells hold.
-/
import Derived.Test.YtodpajnpnobfmaaRowA
import Derived.Test.YtodpajnpnobfmaaFile
import Derived.Test.YtodpajnpnobfmaaLnOwn
import Derived.Test.YtodpajnpnobfmaaGreat
namespace Go.Proofs.Ytodpajnpnobfmaa
open Go Go.ChangeShapes Go.WideShapes Go.RowKit Go.Deep
set_option linter.unusedVariables false
set_option maxRecDepth 100000
set_option linter.unusedSimpArgs false
open WordM (L)
open VM

theorem list_of {α : Type} {P : Nat → α → Prop} : ∀ {n : Nat}, (∀ i, i < n → ∃ x, P i x) → ∃ xs : List α, xs.length = n ∧ ∀ i (h : i < xs.length), P i xs[i]
  | 0, _ => ⟨[], rfl, fun i h => absurd h (Nat.not_lt_zero i)⟩
  | n + 1, h => by
    obtain ⟨xs, hl, hx⟩ := list_of (fun i hi => h i (Nat.lt_succ_of_lt hi))
    obtain ⟨x, hx0⟩ := h n (Nat.lt_succ_self n)
    refine ⟨xs ++ [x], by simp [hl], fun i hi => ?_⟩
    by_cases e : i < xs.length
    · rw [List.getElem_append_left e]; exact hx i e
    · have e2 : i = xs.length := by simp at hi; omega
      subst e2
      rw [List.getElem_append_right (Nat.le_refl _)]
      simpa [hl] using hx0
section
variable {H : Type} {enc : TypeId × Value → H} {P : Program} {w : World} {base : Nat} {spare : Nat → Bool} {held : Bool}
/-- A row whose elements are what a test says of their cells. -/
theorem open_row {α : Type} {n : Nat} {t e : TypeId} {fuel : Nat} {v : Value} {x : DataW H × List MemPlace} (Pr : Nat → Nat → α → Prop) (ht : P.underlying t = some (.slice e)) (hn : P.cellsOf e = n) (hpos : 0 < n)
    (elem : ∀ (b off : Nat) (cs : List Value) (y : DataW H × List MemPlace) (k : Nat), cs.length = n → (∀ i, i < n → w.cell? ⟨b, off + i, none⟩ = cs[i]?) → DataW.trod enc P w base spare held k e cs = some y → ∃ a : α, Pr b off a)
    (h : DataW.trod enc P w base spare held fuel t [v] = some x) :
    ∃ (xs : List α) (A : Option Addr) (c : Nat), v = .slice A xs.length c ∧ xs.length ≤ c ∧ c ≤ maxLen ∧ (0 < xs.length → ∃ b f, A = some ⟨b, f, none⟩ ∧ b < w.heap.size ∧ ∀ j (h : j < xs.length), Pr b (f + j * n) xs[j]) ∧ (A = none → c = 0) := by
  rcases DataW.trod_slice ht h with ⟨e0, _⟩ | ⟨a, len, cap, elems, rest, k, _, e0, _, hb, hl, hm, hlen, hel, _, _⟩
  · injection e0 with e0 _
    exact ⟨[], none, 0, by rw [e0]; rfl, Nat.le_refl _, by unfold maxLen; omega, fun c => absurd c (by simp), fun _ => rfl⟩
  · injection e0 with e0 _
    subst e0
    by_cases hz : len = 0
    · subst hz
      exact ⟨[], some a, cap, rfl, hl, hm, fun c => absurd c (by simp), fun c => (by cases c)⟩
    have each : ∀ i, i < len → ∃ cs y, w.cells? base (a.add (i * n)) n = some cs ∧ DataW.trod enc P w base spare held k e cs = some y := by
      intro i hi
      have h1 := hel i hi
      rw [hn, List.getElem?_eq_getElem (by omega), Option.bind_eq_some_iff] at h1
      obtain ⟨cs, h2, h3⟩ := h1
      exact ⟨cs, _, h2, h3⟩
    obtain ⟨b, f, sp⟩ := a
    have hsp : sp = none ∧ b < w.heap.size := by
      obtain ⟨cs, y, h2, h3⟩ := each 0 (by omega)
      obtain ⟨_, hcl, hcell⟩ := World.cells?_some h2
      have h4 := hcell 0 (by omega)
      rw [List.getElem?_eq_getElem (by omega)] at h4
      have h5 := cell_spot h4
      simp [Addr.add] at h5
      subst h5
      refine ⟨rfl, ?_⟩
      simp [Addr.add] at h4
      exact lt_of_cell h4
    obtain ⟨rfl, hbl⟩ := hsp
    have each2 : ∀ i, i < len → ∃ a : α, Pr b (f + i * n) a := by
      intro i hi
      obtain ⟨cs, y, h2, h3⟩ := each i hi
      obtain ⟨_, hcl, hcell⟩ := World.cells?_some h2
      refine elem b (f + i * n) cs y k hcl (fun j hj => ?_) h3
      have := hcell j hj
      rw [Addr.add_lit, Addr.add_lit] at this
      exact this
    obtain ⟨xs, hxl, hxs⟩ := list_of each2
    exact ⟨xs, some ⟨b, f, none⟩, cap, by rw [hxl], by rw [hxl]; exact hl, hm, fun _ => ⟨b, f, rfl, hbl, hxs⟩, fun c => (by cases c)⟩
/-- The cells of a struct of one-cell fields. -/
theorem open_cells {t : TypeId} {fs : Array Field} {cs : List Value} {x : DataW H × List MemPlace} {fuel : Nat} (hs : P.underlying t = some (.struct fs)) (hone : oneCellFields P fs = true)
    (h : DataW.trod enc P w base spare held fuel t cs = some x) (hC : cs.length = fs.size) :
    ∀ (j : Nat) (f : Field), fs[j]? = some f → ∃ (y : Value) (z : DataW H × List MemPlace) (n : Nat), cs[j]? = some y ∧ DataW.trod enc P w base spare held n f.type [y] = some z := by
  obtain ⟨xs, n, _, _, _, hlen, hg⟩ := DataW.trod_struct hs h
  intro j f hj
  obtain ⟨ho, hk⟩ := hone_of hone j f hj
  have hjl : j < fs.size := (Array.getElem?_eq_some_iff.1 hj).1
  have h1 := hg j f hj
  rw [ho, hk] at h1
  have h2 : (cs.drop j).take 1 = [cs[j]'(by omega)] := by
    rw [List.drop_eq_getElem_cons (by omega)]; rfl
  have hx : xs[j]? = some (xs[j]'(by omega)) := List.getElem?_eq_getElem (by omega)
  rw [h2] at h1
  exact ⟨_, _, n, List.getElem?_eq_getElem (by omega), h1.trans hx⟩
end
section
variable {H : Type} {enc : TypeId × Value → H} {w : World} {base : Nat} {spare : Nat → Bool} {held : Bool}
end
end Go.Proofs.Ytodpajnpnobfmaa
