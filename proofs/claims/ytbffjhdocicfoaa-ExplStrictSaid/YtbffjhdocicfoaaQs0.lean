/-
  DECLARATIONS that a claim wants besides.
-/
import Derived.Test.YtbffjhdocicfoaaK00
import Derived.Test.YtbffjhdocicfoaaK01
import Derived.Test.YtbffjhdocicfoaaK02
import Derived.Test.YtbffjhdocicfoaaK03
import Derived.Test.YtbffjhdocicfoaaK04
import Derived.Test.YtbffjhdocicfoaaRowP
/-
  SEARCH, MATHEMATICS: states wait in a row; of each one, in order, its successors are put behind, if they are new. Of no program.
-/
namespace Go.Proofs.Ytbffjhdocicfoaa
set_option linter.unusedVariables false
set_option linter.unusedSimpArgs false
namespace ExM
section
variable {σ π : Type} [DecidableEq σ] (nx : σ → List (π × σ)) (s0 : σ)

theorem full_nodup {l : List (Nd σ π)} (h : Full nx s0 l) : (sts l).Nodup := by
  obtain ⟨k, rfl, _⟩ := h; exact row_nodup nx s0 k
theorem full_mem {l : List (Nd σ π)} (h : Full nx s0 l) (s : σ) : s ∈ sts l ↔ ∃ w, Leads nx s0 w s := by
  constructor
  · intro hs
    obtain ⟨x, hx, rfl⟩ := List.mem_map.1 hs
    exact ⟨_, full_leads nx s0 h x hx⟩
  · rintro ⟨w, hw⟩
    obtain ⟨v, hv, -⟩ := full_all nx s0 h hw
    exact List.mem_map.2 ⟨_, hv, rfl⟩
end
section
variable {σ π : Type} [DecidableEq σ] (nx : σ → List (π × σ)) (s0 : σ)
/-! The search with a limit. -/
end
end ExM
end Go.Proofs.Ytbffjhdocicfoaa

/-
  SEARCH, MATHEMATICS, THE ENDS: what is found of a full row: each end by the first way in the row; all of them; the document's way to put one more. Of no program.
-/
namespace Go.Proofs.Ytbffjhdocicfoaa
set_option linter.unusedVariables false
set_option linter.unusedSimpArgs false
namespace ExO
open ExM ExN OtM
section
variable {π : Type}
/-! The document's way: a loop with a mark. -/
end
section
variable {σ π : Type} [DecidableEq σ] {nx : σ → List (π × σ)} {s0 : σ} {lt : π → π → Prop} (ov : σ → Bool) (en : σ → Ot)
/-- What is reached by fewer steps of fewer kinds: no more states, no more ends. -/
theorem sub_ends {nx' : σ → List (π × σ)} {l l' : List (Nd σ π)} (h : Full nx s0 l) (h' : Full nx' s0 l') (hs : ∀ w s, Leads nx s0 w s → ∃ w', Leads nx' s0 w' s) : l.length ≤ l'.length ∧ ∀ f ∈ fnd (endsOf ov en l), ∃ g ∈ fnd (endsOf ov en l'), g.1 = f.1 := by
  constructor
  · have := sub_len (full_nodup nx s0 h) (b := sts l') fun x hx => by
      obtain ⟨w, hw⟩ := (full_mem nx s0 h x).1 hx
      exact (full_mem nx' s0 h' x).2 (hs w x hw)
    unfold sts at this; simpa using this
  · intro f hf
    obtain ⟨s, h1, h2, h3⟩ := found_is ov en h hf
    obtain ⟨w', hw'⟩ := hs _ _ h1
    obtain ⟨v, hv, -⟩ := full_all nx' s0 h' hw'
    obtain ⟨g, hg, e⟩ := (fnd_ok (endsOf ov en l')).all _ ((mem_ends ov en l' (en s, v)).2 ⟨s, hv, h2, rfl⟩)
    exact ⟨g, hg, e.trans h3⟩
end
end ExO
end Go.Proofs.Ytbffjhdocicfoaa

/-
  ROWS OF LINES OF THE CALL's OWN: the cells of lines, one behind the other, and what they read as.
-/
namespace Go.Proofs.Ytbffjhdocicfoaa
open Go.RowKit
set_option linter.unusedVariables false
set_option linter.unusedSimpArgs false
open WordM (L)
open OpsM (Ln)

def NilAt (w : World) (b f : Nat) : Prop := ∀ u, w.cell? ⟨b, f, none⟩ = some u → NilZ u
end Go.Proofs.Ytbffjhdocicfoaa

/-
  ARGUMENTS THAT ARE PROGRAMS: what their cells hold.
-/
namespace Go.Proofs.Ytbffjhdocicfoaa
open Go Go.ChangeShapes Go.WideShapes Go.RowKit Go.Deep
set_option linter.unusedVariables false
set_option maxRecDepth 100000
set_option linter.unusedSimpArgs false
open WordM (L)
open VM

section
variable {H : Type} {enc : TypeId × Value → H} {P : Program} {w : World} {base : Nat} {spare : Nat → Bool} {held : Bool}
/-- The cells of a struct of one-cell fields. -/
theorem open_cells {t : TypeId} {fs : Array Field} {cs : List Value} {x : DataW H × List MemPlace} {fuel : Nat} (hs : P.underlying t = some (.struct fs)) (hone : oneCellFields P fs = true)
    (h : DataW.trod enc P w base spare held fuel t cs = some x) (hC : cs.length = fs.size) :
    ∀ (j : Nat) (f : Field), fs[j]? = some f → ∃ (y : Value) (z : DataW H × List MemPlace) (n : Nat), cs[j]? = some y ∧ DataW.trod enc P w base spare held n f.type [y] = some z := by
  obtain ⟨xs, n, _, _, _, hlen, hg⟩ := DataW.trod_struct hs h
  intro j f hj
  obtain ⟨ho, hk⟩ := hone_of hone j f hj
  have hjl : j < fs.size := (Array.getElem?_eq_some_iff.1 hj).1
  have h1 := hg j f hj
  rw [ho, hk] at h1
  have h2 : (cs.drop j).take 1 = [cs[j]'(by omega)] := by
    rw [List.drop_eq_getElem_cons (by omega)]; rfl
  have hx : xs[j]? = some (xs[j]'(by omega)) := List.getElem?_eq_getElem (by omega)
  rw [h2] at h1
  exact ⟨_, _, n, List.getElem?_eq_getElem (by omega), h1.trans hx⟩
end
section
variable {H : Type} {enc : TypeId × Value → H} {w : World} {base : Nat} {spare : Nat → Bool} {held : Bool}
end
end Go.Proofs.Ytbffjhdocicfoaa

/-
  ARGUMENTS THAT ARE CODES: what their cells hold.
-/
namespace Go.Proofs.Ytbffjhdocicfoaa
open Go Go.ChangeShapes Go.WideShapes Go.RowKit Go.Deep
set_option linter.unusedVariables false
set_option maxRecDepth 100000
set_option linter.unusedSimpArgs false
open WordM (L)
open CodM (St Pg)

/-- Each row of steps that is nil has no room. -/
def PgN (w : World) (v : Value) : Prop := ∀ vi b f n c, v = .agg #[vi, .slice (some ⟨b, f, none⟩) n c] → ∀ j, j < n → NilAt w b (f + j)
section
variable {H : Type} {enc : TypeId × Value → H} {w : World} {base : Nat} {spare : Nat → Bool} {held : Bool}
theorem elem_step (b off : Nat) (cs : List Value) (y : DataW H × List MemPlace) (k : Nat) (hl : cs.length = 5) (hc : ∀ i, i < 5 → w.cell? ⟨b, off + i, none⟩ = cs[i]?) (h : DataW.trod enc Try.prog w base spare held k 70 cs = some y) : ∃ a : St, StAt w b off a ∧ StIn a := by
  have hf := open_cells Try.underlying70 (by kernel_rfl) h hl
  match cs, hl with
  | [c0, c1, c2, c3, c4], _ =>
    obtain ⟨x0, y0, n0, e0, t0⟩ := hf 0 _ rfl
    obtain ⟨x1, y1, n1, e1, t1⟩ := hf 1 _ rfl
    obtain ⟨x2, y2, n2, e2, t2⟩ := hf 2 _ rfl
    obtain ⟨x3, y3, n3, e3, t3⟩ := hf 3 _ rfl
    obtain ⟨x4, y4, n4, e4, t4⟩ := hf 4 _ rfl
    obtain ⟨op, rfl, w0⟩ := int_cell Try.underlying3 t0
    obtain ⟨r, rfl, w1⟩ := int_cell Try.underlying3 t1
    obtain ⟨o, rfl, w2⟩ := int_cell Try.underlying3 t2
    obtain ⟨m, rfl, w3⟩ := int_cell Try.underlying3 t3
    obtain ⟨n, rfl, w4⟩ := int_cell Try.underlying3 t4
    obtain rfl := Option.some.inj e0
    obtain rfl := Option.some.inj e1
    obtain rfl := Option.some.inj e2
    obtain rfl := Option.some.inj e3
    obtain rfl := Option.some.inj e4
    exact ⟨⟨op, r, o, m, n⟩, ⟨hc 0 (by decide), hc 1 (by decide), hc 2 (by decide), hc 3 (by decide), hc 4 (by decide)⟩, w0, w1, w2, w3, w4⟩
theorem open_steps {fuel : Nat} {v : Value} {x : DataW H × List MemPlace} (h : DataW.trod enc Try.prog w base spare held fuel 50 [v] = some x) : ∃ ss, Sts w.heap.size w v ss ∧ (∀ s ∈ ss, StIn s) ∧ NilZ v := by
  obtain ⟨xs, A, c, e, h1, h2, h3, h4⟩ := open_row (n := 5) (fun b off a => StAt w b off a ∧ StIn a) Try.underlying50 (by kernel_rfl) (by decide) elem_step h
  refine ⟨xs, ⟨A, c, e, h1, h2, fun k => ?_⟩, fun s hs => ?_, fun n c' e' => by rw [e] at e'; injection e' with e1 _ e3; rw [← e3]; exact h4 e1⟩
  · obtain ⟨b, f, e1, e2, e3⟩ := h3 k
    exact ⟨b, f, e1, e2, fun j hj => (e3 j hj).1⟩
  · obtain ⟨j, hj, rfl⟩ := List.mem_iff_getElem.1 hs
    obtain ⟨b, f, e1, e2, e3⟩ := h3 (by omega)
    exact (e3 j hj).2
theorem elem_ss (b off : Nat) (cs : List Value) (y : DataW H × List MemPlace) (k : Nat) (hl : cs.length = 1) (hc : ∀ i, i < 1 → w.cell? ⟨b, off + i, none⟩ = cs[i]?) (h : DataW.trod enc Try.prog w base spare held k 50 cs = some y) : ∃ ss, SsAt w.heap.size w b off ss ∧ (∀ s ∈ ss, StIn s) ∧ NilAt w b off := by
  match cs, hl with
  | [c0], _ =>
    obtain ⟨ss, hL, hI, hN⟩ := open_steps h
    have hc0 : w.cell? ⟨b, off, none⟩ = some c0 := hc 0 (by decide)
    exact ⟨ss, ⟨c0, hc0, hL⟩, hI, fun u hu => by rw [hc0] at hu; injection hu with hu; subst hu; exact hN⟩
theorem open_prog {r : Reach} {b0 : Nat} {v : Value} {d : DataW H} {p : List MemPlace} (hv : Value.okWide Try.prog w r b0 25 v) (h : DataW.Trod enc Try.prog w base spare held 25 v d p) :
    ∃ P : Pg, PgV w.heap.size w v P ∧ PgIn P ∧ PgN w v := by
  obtain ⟨cs, rfl, hsz, hf⟩ := open_fields Try.underlying25 (by kernel_rfl) (by kernel_rfl) hv h
  obtain ⟨x0, y0, n0, e0, t0⟩ := hf 0 _ rfl
  obtain ⟨x1, y1, n1, e1, t1⟩ := hf 1 _ rfl
  obtain ⟨ns, hN, hNI, _⟩ := open_nums t0
  obtain ⟨ts, A, c, e, h1, h2, h3, h4⟩ := open_row (n := 1) (fun b off a => SsAt w.heap.size w b off a ∧ (∀ s ∈ a, StIn s) ∧ NilAt w b off) Try.underlying23 (by kernel_rfl) (by decide) elem_ss t1
  have hcs : cs = #[x0, x1] := by
    have hs2 : cs.size = 2 := hsz.trans rfl
    apply Array.ext
    · rw [hs2]; rfl
    · intro i hi hi2
      have : i < 2 := by rw [hs2] at hi; exact hi
      match i, this with
      | 0, _ => exact Option.some.inj ((Array.getElem?_eq_getElem hi).symm.trans e0)
      | 1, _ => exact Option.some.inj ((Array.getElem?_eq_getElem hi).symm.trans e1)
  subst hcs
  subst e
  refine ⟨⟨ns, ts⟩, ⟨_, _, rfl, hN, A, c, rfl, h1, h2, fun k => ?_⟩, ⟨hNI, fun ss hs => ?_⟩, fun vi b f n c' e' j hj => ?_⟩
  · obtain ⟨b, f, q1, q2, q3⟩ := h3 k
    exact ⟨b, f, q1, q2, fun j hj => by have := (q3 j hj).1; rwa [Nat.mul_one] at this⟩
  · obtain ⟨j, hj, rfl⟩ := List.mem_iff_getElem.1 hs
    have hj' : j < ts.length := hj
    obtain ⟨b, f, q1, q2, q3⟩ := h3 (by omega)
    exact (q3 j hj').2.1
  · injection e' with e'
    have e2 : (.slice A ts.length c : Value) = .slice (some ⟨b, f, none⟩) n c' := by
      have := congrArg (fun (a : Array Value) => a[1]?) e'
      simpa using this
    injection e2 with e5 e6 _
    subst e6
    obtain ⟨b', f', q1, q2, q3⟩ := h3 (by omega)
    rw [e5] at q1
    injection q1 with q1
    injection q1 with q1 q4
    subst q1; subst q4
    have := (q3 j hj).2.2
    rwa [Nat.mul_one] at this
end
end Go.Proofs.Ytbffjhdocicfoaa

