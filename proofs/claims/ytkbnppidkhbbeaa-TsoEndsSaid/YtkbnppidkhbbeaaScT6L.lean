/-
  ScEnds: mathematics; rows of bytes.
-/
import Derived.Test.YtkbnppidkhbbeaaK02
import Derived.Test.YtkbnppidkhbbeaaK04
import Derived.Test.YtkbnppidkhbbeaaRowJ
namespace Go.Proofs.Ytkbnppidkhbbeaa
open Go Go.ChangeShapes Go.WideShapes Go.RowKit Go.Deep
set_option linter.unusedVariables false
set_option linter.unusedSimpArgs false
set_option maxRecDepth 100000
open CodM (St Pg rightP)
open ScM

/-- The steps that are left. -/
def lft : List (List St) → List Th → Nat
  | ss :: r, h :: t => (ss.length - h.at'.toNat) + lft r t
  | _, _ => 0
/-- All steps of the first threads. -/
def manyT : List (List St) → Nat → Nat
  | ss :: r, k + 1 => ss.length + manyT r k
  | _, _ => 0
theorem manyT_next : ∀ (l : List (List St)) (k : Nat) (h : k < l.length), manyT l (k + 1) = manyT l k + l[k].length
  | [], k, h => absurd h (Nat.not_lt_zero k)
  | ss :: r, 0, h => by simp [manyT]
  | ss :: r, k + 1, h => by
    have := manyT_next r k (by simpa using h)
    simp only [manyT, List.getElem_cons_succ] at this ⊢
    omega
theorem manyT_zero (l : List (List St)) : manyT l 0 = 0 := by cases l <;> rfl
theorem lft_beg : ∀ (l : List (List St)), lft l (l.map fun _ => begTh) = manyT l l.length
  | [] => rfl
  | ss :: r => by
    rw [List.map_cons, lft, List.length_cons, manyT, lft_beg r]
    have : (begTh.at').toNat = 0 := rfl
    rw [this, Nat.sub_zero]
theorem lft_set : ∀ (l : List (List St)) (ths : List Th) (k : Nat) (h : Th) (h1 : k < l.length) (h2 : k < ths.length), ths[k].at'.toNat < h.at'.toNat → ths[k].at'.toNat < l[k].length → lft l (ths.set k h) + 1 ≤ lft l ths
  | [], ths, k, h, h1, h2, _, _ => absurd h1 (Nat.not_lt_zero k)
  | ss :: r, [], k, h, h1, h2, _, _ => absurd h2 (Nat.not_lt_zero k)
  | ss :: r, g :: t, 0, h, h1, h2, hl, hc => by
    simp only [List.set_cons_zero, lft, List.getElem_cons_zero] at hl hc ⊢
    omega
  | ss :: r, g :: t, k + 1, h, h1, h2, hl, hc => by
    have := lft_set r t k h (by simpa using h1) (by simpa using h2) (by simpa using hl) (by simpa using hc)
    simp only [List.set_cons_succ, lft] at this ⊢
    omega
/-- A step that is taken leaves fewer. -/
theorem stp_left {P : Pg} {s : Sta} {t : Int} (hr : rightP P = true) (ho : OkSt P s) (h : (atS P s t).isSome = true) : lft P.ths (stp P s t).ths + 1 ≤ lft P.ths s.ths := by
  cases e : atS P s t with
  | none => rw [e] at h; cases h
  | some x =>
    obtain ⟨k, rfl, h1, h2, h3, hx⟩ := atS_some e
    have hg := goes hr ho h1 h2 h3
    rw [stp_at h1 h2 h3]
    have lo := (ho.th k h1 h2).lo
    exact lft_set P.ths s.ths k _ h2 h1 (by omega) h3
def byC (n : Nat) : List Value := [.int .u8 (n : Int)]
theorem byC_len (n : Nat) : (byC n).length = 1 := rfl
abbrev BytR (B : Nat) (w : World) (v : Value) (g : List Nat) : Prop := Rw byC 1 B w v g
theorem by_at {B : Nat} {w : World} {A : Option Addr} {c : Nat} {m : List Nat} (h : 0 < m.length → ∃ g f, A = some ⟨g, f, none⟩ ∧ g < B ∧ ∀ j u, (m.flatMap byC)[j]? = some u → w.cell? ⟨g, f + j, none⟩ = some u) :
    0 < m.length → ∃ g f, A = some ⟨g, f, none⟩ ∧ g < B ∧ ∀ j (hj : j < m.length), w.cell? ⟨g, f + j, none⟩ = some (.int .u8 (m[j] : Int)) := by
  intro k
  obtain ⟨g, f, e, hg, hc⟩ := h k
  refine ⟨g, f, e, hg, fun j hj => ?_⟩
  have := hc (j * 1) _ ((fl_at byC_len m j 0 hj (by omega)).trans rfl)
  rw [Nat.mul_one] at this; exact this
section
variable {H : Type} {enc : TypeId × Value → H} {w : World} {base : Nat} {spare : Nat → Bool} {held : Bool}
theorem byte_nat' {n : Int} (h : (Lit.int .u8 n).wf = true) : ∃ b : Nat, n = (b : Int) ∧ b < 256 := by
  have h := bounds_u8 h
  exact ⟨n.toNat, by omega, by omega⟩
theorem elem_by (cs : List Value) (y : DataW H × List MemPlace) (k : Nat) (hl : cs.length = 1) (h : DataW.trod enc Try.prog w base spare held k 5 cs = some y) : ∃ a : Nat, byC a = cs ∧ a < 256 := by
  match cs, hl with
  | [c0], _ =>
    obtain ⟨n, e, _, w'⟩ := DataW.trod_int Try.underlying5 h
    injection e with e _
    subst e
    obtain ⟨b, rfl, hb⟩ := byte_nat' w'
    exact ⟨b, rfl, hb⟩
theorem open_bytes {r : Reach} {b0 : Nat} {v : Value} {d : DataW H} {p : List MemPlace} (hv : Value.okWide Try.prog w r b0 55 v) (h : DataW.Trod enc Try.prog w base spare held 55 v d p) :
    ∃ g : List Nat, BytR w.heap.size w v g ∧ ∀ x ∈ g, x < 256 := by
  obtain ⟨a, len, cap, rfl⟩ := okWide_slice Try.underlying55 hv
  obtain ⟨fuel, hf⟩ := h
  exact open_rw (· < 256) byC_len Try.underlying55 (by kernel_rfl) (by decide) elem_by (by simpa [Value.cells] using hf)
end
end Go.Proofs.Ytkbnppidkhbbeaa
