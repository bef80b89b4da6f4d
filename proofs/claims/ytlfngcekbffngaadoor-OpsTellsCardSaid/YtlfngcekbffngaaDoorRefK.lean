/-
  THE DOCUMENT's Get, of any row of words, over any world.
-/
import Derived.Test.YtlfngcekbffngaaDoorRefK0
import Derived.Test.YtlfngcekbffngaaDoorRefK1
import Derived.Test.YtlfngcekbffngaaDoorRefK2
import Derived.Test.YtlfngcekbffngaaDoorRefK3
import Derived.Test.YtlfngcekbffngaaDoorOpsH
namespace Go.Proofs.YtlfngcekbffngaaDoor
open Go.RowKit
set_option linter.unusedVariables false
set_option linter.unusedSimpArgs false
open WordM (L)

theorem innC_len (s : L) : (OpsM.innC s).length ≤ s.length := by
  unfold OpsM.innC
  split <;> simp
theorem innB_len (s : L) : (OpsM.innB s).length ≤ s.length := by
  unfold OpsM.innB
  split
  · simp; omega
  · simp
theorem cand_len (ls : List L) (hs : ∀ l ∈ ls, l.length ≤ 100000) : ∀ c ∈ OpsM.cands ls, c.reg.length ≤ 100000 ∧ c.loc.length ≤ 100000 ∧ c.label.length ≤ 100000 := by
  intro c hc
  match ls, hs, hc with
  | [], _, hc => simp [OpsM.cands] at hc
  | [a], hs, hc =>
    have h1 := hs a (by simp)
    have h2 := innC_len a
    simp only [OpsM.cands, List.mem_cons, List.not_mem_nil, or_false] at hc
    rcases hc with rfl | rfl <;> simp <;> omega
  | [a, b], hs, hc =>
    have h1 := hs b (by simp)
    simp only [OpsM.cands, List.mem_cons, List.not_mem_nil, or_false] at hc
    rcases hc with rfl | rfl | rfl <;> simp <;> omega
  | [a, b, d], hs, hc =>
    have h1 := hs b (by simp)
    have h2 := hs d (by simp)
    have h3 := innB_len b
    have h4 := innB_len d
    simp only [OpsM.cands, List.mem_cons, List.not_mem_nil, or_false] at hc
    rcases hc with rfl | rfl | rfl | rfl | rfl | rfl <;> simp <;> omega
  | a :: b :: d :: e :: r, _, hc => simp [OpsM.cands] at hc
theorem gfacts {w : World} {v : Value} {ls : List L} (h : Strs w.heap.size w v ls) (hs : ∀ l ∈ ls, l.length ≤ 100000) : GFacts w v ls (OpsM.cands ls) (OpsM.get ls) where
  S := h
  L := cand_len ls hs
  R := OpsM.cand_range ls
  F := fun k h ha hy => by rw [← OpsM.rget_eq]; exact rget_hit h ha hy
  M := fun ha => by rw [← OpsM.rget_eq]; exact rget_miss ha
/-- The document's Get is Get. -/
theorem rget3_any {B : Nat} {v : Value} {ls : List L} (w : World) (h : Strs B w v ls) (hBB : B ≤ w.heap.size) (hs : ∀ l ∈ ls, l.length ≤ 100000) :
    Calls Tryd.prog 13 #[v] w fun e w' => e = .returned (.tuple #[lnw (OpsM.get ls).1, .bool (OpsM.get ls).2]) ∧ Below w.heap.size w w' := by
  have h' := strs_more h hBB
  have HG := gfacts h' hs
  obtain ⟨A, c, rfl, hc, h0⟩ := strs_cell h' (Nat.le_refl _)
  have sz : ∀ l ∈ ls, (⟨l.toArray⟩ : ByteArray).size ≤ 100000 := fun l hl => by rw [Lib.size_eq]; simpa using hs l hl
  match ls, hc, h0, sz, HG with
  | [], _, _, _, _ =>
    rw [show OpsM.get [] = (OpsM.zero, false) by rw [← OpsM.rget_eq]; rfl]
    exact rget3_0 A c w
  | [a], hc, h0, sz, HG =>
    obtain ⟨g, f, rfl, hg, hcl⟩ := h0 (by simp)
    exact rget3_1 g f c ⟨a.toArray⟩ w [a] _ _ hg hc (hcl 0 (by simp)) (sz a (by simp)) HG (by simp [OpsM.cands])
  | [a, b], hc, h0, sz, HG =>
    obtain ⟨g, f, rfl, hg, hcl⟩ := h0 (by simp)
    exact rget3_2 g f c ⟨b.toArray⟩ w [a, b] _ _ hg hc (hcl 1 (by simp)) HG (by simp [OpsM.cands])
  | [a, b, d], hc, h0, sz, HG =>
    obtain ⟨g, f, rfl, hg, hcl⟩ := h0 (by simp)
    exact rget3_3 g f c ⟨b.toArray⟩ ⟨d.toArray⟩ w [a, b, d] _ _ hg hc (hcl 1 (by simp)) (hcl 2 (by simp)) (sz b (by simp)) (sz d (by simp)) HG (by simp [OpsM.cands])
  | a :: b :: d :: e :: r, _, _, _, _ =>
    rw [show OpsM.get (a :: b :: d :: e :: r) = (OpsM.zero, false) by rw [← OpsM.rget_eq]; rfl]
    exact rget3_4 A _ c (by simp) w
end Go.Proofs.YtlfngcekbffngaaDoor
