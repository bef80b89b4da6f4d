/-
  STATES THAT LIE IN AN ARGUMENT's ROWS, OR IN THE CALL's OWN; rows of bools.
-/
import Derived.Test.YtkbnppidkhbbeaaK24
import Derived.Test.YtkbnppidkhbbeaaK06
import Derived.Test.YtkbnppidkhbbeaaK27
namespace Go.Proofs.Ytkbnppidkhbbeaa
open Go Go.ChangeShapes Go.WideShapes Go.RowKit Go.Deep
set_option linter.unusedVariables false
set_option linter.unusedSimpArgs false
open CodM (St Pg rightP)
open BfM (Wr plc)
open ScM

def AnyS (B base : Nat) (w : World) (vm vt : Value) (s : Sta) : Prop := StaM B w vm vt s ∨ ∃ ps, OwnSt base w vm vt s ps
theorem AnyS.sv {B base : Nat} {w : World} {vm vt : Value} {s : Sta} (h : AnyS B base w vm vt s) (hB : B ≤ w.heap.size) : StaV w.heap.size w (.agg #[vm, vt]) s := by
  rcases h with h | ⟨ps, h⟩
  · exact ⟨_, _, rfl, h.more hB⟩
  · exact h.sv
theorem AnyS.st {B base : Nat} {w : World} {vm vt : Value} {s : Sta} (h : AnyS B base w vm vt s) (hB : B ≤ w.heap.size) : StaM w.heap.size w vm vt s := by
  rcases h with h | ⟨ps, h⟩
  · exact h.more hB
  · exact h.read (Nat.le_refl _)
theorem AnyS.below {B base : Nat} {w w' : World} {vm vt : Value} {s : Sta} (h : AnyS B base w vm vt s) (hb : Below w.heap.size w w') (hB : B ≤ w.heap.size) : AnyS B base w' vm vt s := by
  rcases h with h | ⟨ps, h⟩
  · exact .inl (h.below (hb.mono hB))
  · exact .inr ⟨ps, h.below hb⟩
theorem AnyS.box {B base g : Nat} {w : World} {T : TypeId} {cs : Array Value} {vm vt : Value} {s : Sta} (h : AnyS B base w vm vt s) (hbx : BoxC w g T cs) (h1 : (43 : TypeId) ≠ T) (h2 : (3 : TypeId) ≠ T) (h3 : (54 : TypeId) ≠ T) (hg : B ≤ g) (i : Nat) (x : Value) :
    AnyS B base (w.setCell ⟨g, i, none⟩ x) vm vt s := by
  rcases h with h | ⟨ps, h⟩
  · exact .inl (h.below ((Below.refl B w).setCell (p := ⟨g, i, none⟩) hg _))
  · exact .inr ⟨ps, h.box hbx h1 h2 h3 i x⟩
/-! Rows of bools. -/
def boC (b : Bool) : List Value := [.bool b]
theorem boC_len (b : Bool) : (boC b).length = 1 := rfl
abbrev BoR (B : Nat) (w : World) (v : Value) (m : List Bool) : Prop := Rw boC 1 B w v m
theorem bo_at {B : Nat} {w : World} {A : Option Addr} {c : Nat} {m : List Bool} (h : 0 < m.length → ∃ g f, A = some ⟨g, f, none⟩ ∧ g < B ∧ ∀ j u, (m.flatMap boC)[j]? = some u → w.cell? ⟨g, f + j, none⟩ = some u) :
    0 < m.length → ∃ g f, A = some ⟨g, f, none⟩ ∧ g < B ∧ ∀ j (hj : j < m.length), w.cell? ⟨g, f + j, none⟩ = some (.bool m[j]) := by
  intro h0
  obtain ⟨g, f, e, hg, hc⟩ := h h0
  refine ⟨g, f, e, hg, fun j hj => ?_⟩
  have := hc j (.bool m[j]) (by
    have := fl_at boC_len m j 0 hj (by decide)
    rw [Nat.mul_one, Nat.add_zero] at this
    rw [this]; rfl)
  exact this
theorem flu_step {P : Pg} (hr : rightP P = true) {s s' : Sta} {k : Nat} {d : Bool} (ho : OkSt P s) (h : tst P s (k : Int) d = some s') : flu s' (k : Int) = if d then flu s (k : Int) else stp P (flu s (k : Int)) (k : Int) := by
  obtain ⟨j, hj, h1, h2, ⟨rfl, hb, rfl⟩ | ⟨rfl, h3, hs, rfl⟩⟩ := tst_some ho h
  · have : j = k := by omega
    subst this
    rw [if_pos rfl]; exact flu_drn ho h1
  · have : j = k := by omega
    subst this
    rw [if_neg (by decide)]; exact flu_tsS hr ho h1 h2 h3 hs
end Go.Proofs.Ytkbnppidkhbbeaa
