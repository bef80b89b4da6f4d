/-
  No cell of these rows narrows 'for every input' (looked for: loops, veiled, ifaces, maps, wideKeys, modest, calm, conditions, laid).
  DERIVED. THE GIVEN ROWS OF THIS SEAT. 6 by the template 'for every input the law returns true; each argument reads behind the call as it read before'; 0 by the template 'total and deterministic' (their statements: YtkbnppidkhbbeaaTotals.lean).
  GIVEN WITH THE SEED: the statements are not yours to turn. If you find one false, say at which input.
  Laid BY PROGRAM, IN A SANDBOX (cutbox-rows.mjs): the forced cells as the released guide's own fill.sh prints them over the translation 9856e0d456e27c9b… (all of the seat's roots in one cut). By AI agents, Wed Nov 11 2026. No macro, syntax, notation, axiom, sorry.
-/
import Derived.Test.YtkbnppidkhbbeaaChecked
import GoSem.Claim
import GoSem.ClaimJoined
import GoSem.ClaimMapViews
import Derived.JoinedTies
import Derived.KernelRfl
namespace Go.Proofs.Ytkbnppidkhbbeaa
/- THE CELL 'sum', in the pinned program and in every row, IS THE sha256 OF THE DUMP (.gsa) THAT YtkbnppidkhbbeaaProg.lean LOADS. Nothing in Lean hashes anything: it is a label: what it is worth is what the hold of that sum in a sandbox is worth. -/
noncomputable def Try.pinned : Pinned := { name := "ytkbnppidkhbbeaa", sum := "9856e0d456e27c9b8a3bede4be4a8ae80cbfee37de5b7a7da1fb75a7d7d9680c", checked := Try.checked }
namespace Rows
def none {H : Type} : Left H := { results := [], args := [] }

/-- 'fencepostlaw11.TsoTells': WHATEVER THE INPUT: true; the input reads as it did. -/
def tsoTellsSpec : ChangeSpec := { name := "tsoTells", fn := fun _ => fun
  | [d1, d2, d3] => { results := [.lit (.bool true)], args := [d1, d2, d3] }
  | _ => none }
def tsoTellsRow : OpenClaim := { program := "ytkbnppidkhbbeaa", sum := "9856e0d456e27c9b8a3bede4be4a8ae80cbfee37de5b7a7da1fb75a7d7d9680c", func := "fencepost/fencepostlaw11.TsoTells", spec := "tsoTells", unfollowed := true, recurses := true, apart := false }
def TsoTellsSaid : Prop := tsoTellsRow.holds Try.pinned (OpenSpec.ofChange tsoTellsSpec)

/-- ITS FALSE NEIGHBOUR: 'it returns false'. Refute it at one input. -/
def tsoTellsWrong : ChangeSpec := { name := "tsoTells", fn := fun _ => fun
  | [d1, d2, d3] => { results := [.lit (.bool false)], args := [d1, d2, d3] }
  | _ => none }
def TsoTellsWrongFalsely : Prop := tsoTellsRow.holds Try.pinned (OpenSpec.ofChange tsoTellsWrong)

/-- 'fencepostlaw11.TsoOnce': WHATEVER THE INPUT: true; the input reads as it did. -/
def tsoOnceSpec : ChangeSpec := { name := "tsoOnce", fn := fun _ => fun
  | [d1, d2, d3] => { results := [.lit (.bool true)], args := [d1, d2, d3] }
  | _ => none }
def tsoOnceRow : OpenClaim := { program := "ytkbnppidkhbbeaa", sum := "9856e0d456e27c9b8a3bede4be4a8ae80cbfee37de5b7a7da1fb75a7d7d9680c", func := "fencepost/fencepostlaw11.TsoOnce", spec := "tsoOnce", unfollowed := true, recurses := true, apart := false }
def TsoOnceSaid : Prop := tsoOnceRow.holds Try.pinned (OpenSpec.ofChange tsoOnceSpec)

/-- ITS FALSE NEIGHBOUR: 'it returns false'. Refute it at one input. -/
def tsoOnceWrong : ChangeSpec := { name := "tsoOnce", fn := fun _ => fun
  | [d1, d2, d3] => { results := [.lit (.bool false)], args := [d1, d2, d3] }
  | _ => none }
def TsoOnceWrongFalsely : Prop := tsoOnceRow.holds Try.pinned (OpenSpec.ofChange tsoOnceWrong)

/-- 'fencepostlaw11.TsoOwn': WHATEVER THE INPUT: true; the input reads as it did. -/
def tsoOwnSpec : ChangeSpec := { name := "tsoOwn", fn := fun _ => fun
  | [d1, d2, d3, d4] => { results := [.lit (.bool true)], args := [d1, d2, d3, d4] }
  | _ => none }
def tsoOwnRow : OpenClaim := { program := "ytkbnppidkhbbeaa", sum := "9856e0d456e27c9b8a3bede4be4a8ae80cbfee37de5b7a7da1fb75a7d7d9680c", func := "fencepost/fencepostlaw11.TsoOwn", spec := "tsoOwn", unfollowed := true, recurses := true, apart := false }
def TsoOwnSaid : Prop := tsoOwnRow.holds Try.pinned (OpenSpec.ofChange tsoOwnSpec)

/-- ITS FALSE NEIGHBOUR: 'it returns false'. Refute it at one input. -/
def tsoOwnWrong : ChangeSpec := { name := "tsoOwn", fn := fun _ => fun
  | [d1, d2, d3, d4] => { results := [.lit (.bool false)], args := [d1, d2, d3, d4] }
  | _ => none }
def TsoOwnWrongFalsely : Prop := tsoOwnRow.holds Try.pinned (OpenSpec.ofChange tsoOwnWrong)

/-- 'fencepostlaw11.TsoApart': WHATEVER THE INPUT: true; the input reads as it did. -/
def tsoApartSpec : ChangeSpec := { name := "tsoApart", fn := fun _ => fun
  | [d1, d2, d3] => { results := [.lit (.bool true)], args := [d1, d2, d3] }
  | _ => none }
def tsoApartRow : OpenClaim := { program := "ytkbnppidkhbbeaa", sum := "9856e0d456e27c9b8a3bede4be4a8ae80cbfee37de5b7a7da1fb75a7d7d9680c", func := "fencepost/fencepostlaw11.TsoApart", spec := "tsoApart", unfollowed := true, recurses := true, apart := false }
def TsoApartSaid : Prop := tsoApartRow.holds Try.pinned (OpenSpec.ofChange tsoApartSpec)

/-- ITS FALSE NEIGHBOUR: 'it returns false'. Refute it at one input. -/
def tsoApartWrong : ChangeSpec := { name := "tsoApart", fn := fun _ => fun
  | [d1, d2, d3] => { results := [.lit (.bool false)], args := [d1, d2, d3] }
  | _ => none }
def TsoApartWrongFalsely : Prop := tsoApartRow.holds Try.pinned (OpenSpec.ofChange tsoApartWrong)

/-- 'fencepostlaw11.TsoCan': WHATEVER THE INPUT: true; the input reads as it did. -/
def tsoCanSpec : ChangeSpec := { name := "tsoCan", fn := fun _ => fun
  | [d1, d2, d3] => { results := [.lit (.bool true)], args := [d1, d2, d3] }
  | _ => none }
def tsoCanRow : OpenClaim := { program := "ytkbnppidkhbbeaa", sum := "9856e0d456e27c9b8a3bede4be4a8ae80cbfee37de5b7a7da1fb75a7d7d9680c", func := "fencepost/fencepostlaw11.TsoCan", spec := "tsoCan", unfollowed := true, recurses := true, apart := false }
def TsoCanSaid : Prop := tsoCanRow.holds Try.pinned (OpenSpec.ofChange tsoCanSpec)

/-- ITS FALSE NEIGHBOUR: 'it returns false'. Refute it at one input. -/
def tsoCanWrong : ChangeSpec := { name := "tsoCan", fn := fun _ => fun
  | [d1, d2, d3] => { results := [.lit (.bool false)], args := [d1, d2, d3] }
  | _ => none }
def TsoCanWrongFalsely : Prop := tsoCanRow.holds Try.pinned (OpenSpec.ofChange tsoCanWrong)

/-- 'fencepostlaw11.TsoEnds': WHATEVER THE INPUT: true; the input reads as it did. -/
def tsoEndsSpec : ChangeSpec := { name := "tsoEnds", fn := fun _ => fun
  | [d1, d2, d3] => { results := [.lit (.bool true)], args := [d1, d2, d3] }
  | _ => none }
def tsoEndsRow : OpenClaim := { program := "ytkbnppidkhbbeaa", sum := "9856e0d456e27c9b8a3bede4be4a8ae80cbfee37de5b7a7da1fb75a7d7d9680c", func := "fencepost/fencepostlaw11.TsoEnds", spec := "tsoEnds", unfollowed := true, recurses := true, apart := false }
def TsoEndsSaid : Prop := tsoEndsRow.holds Try.pinned (OpenSpec.ofChange tsoEndsSpec)

/-- ITS FALSE NEIGHBOUR: 'it returns false'. Refute it at one input. -/
def tsoEndsWrong : ChangeSpec := { name := "tsoEnds", fn := fun _ => fun
  | [d1, d2, d3] => { results := [.lit (.bool false)], args := [d1, d2, d3] }
  | _ => none }
def TsoEndsWrongFalsely : Prop := tsoEndsRow.holds Try.pinned (OpenSpec.ofChange tsoEndsWrong)

/- THE SECOND FORM. 'bulk': how many values and letters a reading holds, each counted each time it is reached (what is shared counts as often as it is met; a slice's spare places count too). A statement '..UptoSaid' is the law's where the arguments, and the package variables that the reading takes, are together of bulk at most 1048576: NARROWER than '..Said'. Prove '..Said' where nothing that the law and all that it calls make is longer than what came in: it says more and counts as full. Else prove '..UptoSaid'. A law counts once. -/
mutual
def uptoBulk {H : Type} : DataW H → Nat
  | .lit (.string bytes) => bytes.length + 1
  | .lit _ => 1
  | .nil => 1
  | .ptr d => uptoBulk d + 1
  | .slice elems spare => uptoBulkAll elems + uptoBulkAll spare + 1
  | .agg parts => uptoBulkAll parts + 1
  | .iface _ d => uptoBulk d + 1
  | .map entries => uptoBulkEntries entries + 1
  | .held _ => 1
def uptoBulkAll {H : Type} : List (DataW H) → Nat
  | [] => 0
  | d :: r => uptoBulk d + uptoBulkAll r
def uptoBulkEntries {H : Type} : List (Lit × DataW H) → Nat
  | [] => 0
  | x :: r => uptoBulkEntry x + uptoBulkEntries r
def uptoBulkEntry {H : Type} : Lit × DataW H → Nat
  | (.string bytes, d) => bytes.length + uptoBulk d + 1
  | (_, d) => uptoBulk d + 1
 end
def uptoSmall : (H : Type) → List (DataW H) → Bool := fun _ ds => decide (uptoBulkAll ds ≤ 1048576)
def OpenSpec.upto (s : _root_.Go.ChangeSpec) : _root_.Go.OpenSpec := { _root_.Go.OpenSpec.ofChange s with cond := some uptoSmall }

/-- 'fencepostlaw11.TsoTells', WHERE WHAT IT READS IS OF BULK AT MOST 1048576: true; the input reads as it did. -/
def tsoTellsUptoRow : OpenClaim := { program := "ytkbnppidkhbbeaa", sum := "9856e0d456e27c9b8a3bede4be4a8ae80cbfee37de5b7a7da1fb75a7d7d9680c", func := "fencepost/fencepostlaw11.TsoTells", spec := "tsoTells", unfollowed := true, recurses := true, apart := false, narrowed := true }
def TsoTellsUptoSaid : Prop := tsoTellsUptoRow.holds Try.pinned (OpenSpec.upto tsoTellsSpec)

/-- 'fencepostlaw11.TsoOnce', WHERE WHAT IT READS IS OF BULK AT MOST 1048576: true; the input reads as it did. -/
def tsoOnceUptoRow : OpenClaim := { program := "ytkbnppidkhbbeaa", sum := "9856e0d456e27c9b8a3bede4be4a8ae80cbfee37de5b7a7da1fb75a7d7d9680c", func := "fencepost/fencepostlaw11.TsoOnce", spec := "tsoOnce", unfollowed := true, recurses := true, apart := false, narrowed := true }
def TsoOnceUptoSaid : Prop := tsoOnceUptoRow.holds Try.pinned (OpenSpec.upto tsoOnceSpec)

/-- 'fencepostlaw11.TsoOwn', WHERE WHAT IT READS IS OF BULK AT MOST 1048576: true; the input reads as it did. -/
def tsoOwnUptoRow : OpenClaim := { program := "ytkbnppidkhbbeaa", sum := "9856e0d456e27c9b8a3bede4be4a8ae80cbfee37de5b7a7da1fb75a7d7d9680c", func := "fencepost/fencepostlaw11.TsoOwn", spec := "tsoOwn", unfollowed := true, recurses := true, apart := false, narrowed := true }
def TsoOwnUptoSaid : Prop := tsoOwnUptoRow.holds Try.pinned (OpenSpec.upto tsoOwnSpec)

/-- 'fencepostlaw11.TsoApart', WHERE WHAT IT READS IS OF BULK AT MOST 1048576: true; the input reads as it did. -/
def tsoApartUptoRow : OpenClaim := { program := "ytkbnppidkhbbeaa", sum := "9856e0d456e27c9b8a3bede4be4a8ae80cbfee37de5b7a7da1fb75a7d7d9680c", func := "fencepost/fencepostlaw11.TsoApart", spec := "tsoApart", unfollowed := true, recurses := true, apart := false, narrowed := true }
def TsoApartUptoSaid : Prop := tsoApartUptoRow.holds Try.pinned (OpenSpec.upto tsoApartSpec)

/-- 'fencepostlaw11.TsoCan', WHERE WHAT IT READS IS OF BULK AT MOST 1048576: true; the input reads as it did. -/
def tsoCanUptoRow : OpenClaim := { program := "ytkbnppidkhbbeaa", sum := "9856e0d456e27c9b8a3bede4be4a8ae80cbfee37de5b7a7da1fb75a7d7d9680c", func := "fencepost/fencepostlaw11.TsoCan", spec := "tsoCan", unfollowed := true, recurses := true, apart := false, narrowed := true }
def TsoCanUptoSaid : Prop := tsoCanUptoRow.holds Try.pinned (OpenSpec.upto tsoCanSpec)

/-- 'fencepostlaw11.TsoEnds', WHERE WHAT IT READS IS OF BULK AT MOST 1048576: true; the input reads as it did. -/
def tsoEndsUptoRow : OpenClaim := { program := "ytkbnppidkhbbeaa", sum := "9856e0d456e27c9b8a3bede4be4a8ae80cbfee37de5b7a7da1fb75a7d7d9680c", func := "fencepost/fencepostlaw11.TsoEnds", spec := "tsoEnds", unfollowed := true, recurses := true, apart := false, narrowed := true }
def TsoEndsUptoSaid : Prop := tsoEndsUptoRow.holds Try.pinned (OpenSpec.upto tsoEndsSpec)

end Rows
end Go.Proofs.Ytkbnppidkhbbeaa
