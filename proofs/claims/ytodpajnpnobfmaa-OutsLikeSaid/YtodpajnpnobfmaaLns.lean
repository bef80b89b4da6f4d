/-
  ROWS OF LINES in memory: what it says that a slice reads as lines; the small tests of package valid on one line.
-/
import Derived.Test.YtodpajnpnobfmaaOpsW
import Derived.Test.YtodpajnpnobfmaaKit2
import Derived.Test.YtodpajnpnobfmaaStrs
namespace Go.Proofs.Ytodpajnpnobfmaa
open Go.RowKit
set_option linter.unusedVariables false
set_option linter.unusedSimpArgs false
open WordM (L)

/-- Five cells from f on of block b hold the line l. -/
def LnAt (w : World) (b f : Nat) (l : OpsM.Ln) : Prop :=
  w.cell? ⟨b, f, none⟩ = some (.int .i64 l.op) ∧ w.cell? ⟨b, f + 1, none⟩ = some (.string ⟨l.reg.toArray⟩) ∧ w.cell? ⟨b, f + 2, none⟩ = some (.string ⟨l.loc.toArray⟩) ∧
    w.cell? ⟨b, f + 3, none⟩ = some (.string ⟨l.label.toArray⟩) ∧ w.cell? ⟨b, f + 4, none⟩ = some (.int .i64 l.n)
theorem LnAt.below {w w' : World} {B b f : Nat} {l : OpsM.Ln} (h : LnAt w b f l) (hb : Below B w w') (hlt : b < B) : LnAt w' b f l :=
  ⟨(hb.cell (p := ⟨b, f, none⟩) hlt).trans h.1, (hb.cell (p := ⟨b, f + 1, none⟩) hlt).trans h.2.1, (hb.cell (p := ⟨b, f + 2, none⟩) hlt).trans h.2.2.1, (hb.cell (p := ⟨b, f + 3, none⟩) hlt).trans h.2.2.2.1, (hb.cell (p := ⟨b, f + 4, none⟩) hlt).trans h.2.2.2.2⟩
/-- The value v is a slice that reads as the lines ls, in a block below B. -/
def Lns (B : Nat) (w : World) (v : Value) (ls : List OpsM.Ln) : Prop :=
  ∃ A c, v = .slice A ls.length c ∧ ls.length ≤ c ∧ c ≤ maxLen ∧
    (0 < ls.length → ∃ b f, A = some ⟨b, f, none⟩ ∧ b < B ∧ ∀ j (h : j < ls.length), LnAt w b (f + j * 5) ls[j])
theorem Lns.below {B : Nat} {w w' : World} {v : Value} {ls : List OpsM.Ln} (h : Lns B w v ls) (hb : Below B w w') : Lns B w' v ls := by
  obtain ⟨A, c, e, h1, h2, h3⟩ := h
  refine ⟨A, c, e, h1, h2, fun k => ?_⟩
  obtain ⟨b, f, e2, h4, h5⟩ := h3 k
  exact ⟨b, f, e2, h4, fun j hj => (h5 j hj).below hb h4⟩
theorem Lns.more {B B' : Nat} {w : World} {v : Value} {ls : List OpsM.Ln} (h : Lns B w v ls) (hb : B ≤ B') : Lns B' w v ls := by
  obtain ⟨A, c, e, h1, h2, h3⟩ := h
  refine ⟨A, c, e, h1, h2, fun k => ?_⟩
  obtain ⟨b, f, e2, h4, h5⟩ := h3 k
  exact ⟨b, f, e2, by omega, h5⟩

end Go.Proofs.Ytodpajnpnobfmaa
