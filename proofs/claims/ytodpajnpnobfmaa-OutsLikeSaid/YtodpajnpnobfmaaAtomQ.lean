/-
  ATOMS as values; ops.Asked, over any world that holds the registers.
-/
import Derived.Test.YtodpajnpnobfmaaOpsW
import Derived.Test.YtodpajnpnobfmaaAtomM
import Derived.Test.YtodpajnpnobfmaaKit2
import Derived.StillTailTactics
import Derived.Deep.RegionHeld3
namespace Go.Proofs.Ytodpajnpnobfmaa
open Go.RowKit
set_option linter.unusedVariables false
set_option linter.unusedSimpArgs false
open WordM (L)

/-- An atom as a value. -/
def atv (t : Int) (nm : ByteArray) (n : Int) : Value := .agg #[.int .i64 t, .string nm, .int .i64 n]
def atw (a : AtomM.At) : Value := atv a.t ⟨a.nm.toArray⟩ a.n

theorem below_undrew {w w' : World} (h : Below w.drew.heap.size w.drew w') : Below w.heap.size w w' := (below_drewN (Below.refl w.heap.size w) 1).trans h
end Go.Proofs.Ytodpajnpnobfmaa
