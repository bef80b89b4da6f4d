/-
  No cell of these rows narrows 'for every input' (looked for: loops, veiled, ifaces, maps, wideKeys, modest, calm, conditions, laid).
  DERIVED. THE GIVEN ROWS OF THIS SEAT. 6 by the template 'for every input the law returns true; each argument reads behind the call as it read before'; 0 by the template 'total and deterministic' (their statements: YtodpajnpnobfmaaTotals.lean).
  GIVEN WITH THE SEED: the statements are not yours to turn. If you find one false, say at which input.
  Laid BY PROGRAM, IN A SANDBOX (cutbox-rows.mjs): the forced cells as the released guide's own fill.sh prints them over the translation 5b81a0cad98c11a8… (all of the seat's roots in one cut). By AI agents, Wed Nov 11 2026. No macro, syntax, notation, axiom, sorry.
-/
import Derived.Test.YtodpajnpnobfmaaChecked
import GoSem.Claim
import GoSem.ClaimJoined
import GoSem.ClaimMapViews
import Derived.JoinedTies
import Derived.KernelRfl
namespace Go.Proofs.Ytodpajnpnobfmaa
/- THE CELL 'sum', in the pinned program and in every row, IS THE sha256 OF THE DUMP (.gsa) THAT YtodpajnpnobfmaaProg.lean LOADS. Nothing in Lean hashes anything: it is a label: what it is worth is what the hold of that sum in a sandbox is worth. -/
noncomputable def Try.pinned : Pinned := { name := "ytodpajnpnobfmaa", sum := "5b81a0cad98c11a85894285287df0592ee3a09c33c4a53465bd52e903e1e5d9b", checked := Try.checked }
namespace Rows
def none {H : Type} : Left H := { results := [], args := [] }

/-- 'fencepostlaw15.OutsTells': WHATEVER THE INPUT: true; the input reads as it did. -/
def outsTellsSpec : ChangeSpec := { name := "outsTells", fn := fun _ => fun
  | [d1, d2, d3, d4] => { results := [.lit (.bool true)], args := [d1, d2, d3, d4] }
  | _ => none }
def outsTellsRow : OpenClaim := { program := "ytodpajnpnobfmaa", sum := "5b81a0cad98c11a85894285287df0592ee3a09c33c4a53465bd52e903e1e5d9b", func := "fencepost/fencepostlaw15.OutsTells", spec := "outsTells", inPlace := ["slices.overlaps[fencepost/api.Out]"], unfollowed := true, recurses := true, apart := false }
def OutsTellsSaid : Prop := outsTellsRow.holds Try.pinned (OpenSpec.ofChange outsTellsSpec)

/-- ITS FALSE NEIGHBOUR: 'it returns false'. Refute it at one input. -/
def outsTellsWrong : ChangeSpec := { name := "outsTells", fn := fun _ => fun
  | [d1, d2, d3, d4] => { results := [.lit (.bool false)], args := [d1, d2, d3, d4] }
  | _ => none }
def OutsTellsWrongFalsely : Prop := outsTellsRow.holds Try.pinned (OpenSpec.ofChange outsTellsWrong)

/-- 'fencepostlaw15.OutsOrder': WHATEVER THE INPUT: true; the input reads as it did. -/
def outsOrderSpec : ChangeSpec := { name := "outsOrder", fn := fun _ => fun
  | [d1, d2, d3] => { results := [.lit (.bool true)], args := [d1, d2, d3] }
  | _ => none }
def outsOrderRow : OpenClaim := { program := "ytodpajnpnobfmaa", sum := "5b81a0cad98c11a85894285287df0592ee3a09c33c4a53465bd52e903e1e5d9b", func := "fencepost/fencepostlaw15.OutsOrder", spec := "outsOrder", inPlace := ["slices.overlaps[fencepost/api.Out]"], unfollowed := true, recurses := true, apart := false }
def OutsOrderSaid : Prop := outsOrderRow.holds Try.pinned (OpenSpec.ofChange outsOrderSpec)

/-- ITS FALSE NEIGHBOUR: 'it returns false'. Refute it at one input. -/
def outsOrderWrong : ChangeSpec := { name := "outsOrder", fn := fun _ => fun
  | [d1, d2, d3] => { results := [.lit (.bool false)], args := [d1, d2, d3] }
  | _ => none }
def OutsOrderWrongFalsely : Prop := outsOrderRow.holds Try.pinned (OpenSpec.ofChange outsOrderWrong)

/-- 'fencepostlaw15.OutsPut': WHATEVER THE INPUT: true; the input reads as it did. -/
def outsPutSpec : ChangeSpec := { name := "outsPut", fn := fun _ => fun
  | [d1, d2, d3] => { results := [.lit (.bool true)], args := [d1, d2, d3] }
  | _ => none }
def outsPutRow : OpenClaim := { program := "ytodpajnpnobfmaa", sum := "5b81a0cad98c11a85894285287df0592ee3a09c33c4a53465bd52e903e1e5d9b", func := "fencepost/fencepostlaw15.OutsPut", spec := "outsPut", inPlace := ["slices.overlaps[fencepost/api.Out]"], unfollowed := true, recurses := true, apart := false }
def OutsPutSaid : Prop := outsPutRow.holds Try.pinned (OpenSpec.ofChange outsPutSpec)

/-- ITS FALSE NEIGHBOUR: 'it returns false'. Refute it at one input. -/
def outsPutWrong : ChangeSpec := { name := "outsPut", fn := fun _ => fun
  | [d1, d2, d3] => { results := [.lit (.bool false)], args := [d1, d2, d3] }
  | _ => none }
def OutsPutWrongFalsely : Prop := outsPutRow.holds Try.pinned (OpenSpec.ofChange outsPutWrong)

/-- 'fencepostlaw15.OutsHas': WHATEVER THE INPUT: true; the input reads as it did. -/
def outsHasSpec : ChangeSpec := { name := "outsHas", fn := fun _ => fun
  | [d1, d2] => { results := [.lit (.bool true)], args := [d1, d2] }
  | _ => none }
def outsHasRow : OpenClaim := { program := "ytodpajnpnobfmaa", sum := "5b81a0cad98c11a85894285287df0592ee3a09c33c4a53465bd52e903e1e5d9b", func := "fencepost/fencepostlaw15.OutsHas", spec := "outsHas", inPlace := ["slices.overlaps[fencepost/api.Out]"], unfollowed := true, recurses := true, apart := false }
def OutsHasSaid : Prop := outsHasRow.holds Try.pinned (OpenSpec.ofChange outsHasSpec)

/-- ITS FALSE NEIGHBOUR: 'it returns false'. Refute it at one input. -/
def outsHasWrong : ChangeSpec := { name := "outsHas", fn := fun _ => fun
  | [d1, d2] => { results := [.lit (.bool false)], args := [d1, d2] }
  | _ => none }
def OutsHasWrongFalsely : Prop := outsHasRow.holds Try.pinned (OpenSpec.ofChange outsHasWrong)

/-- 'fencepostlaw15.OutsMinus': WHATEVER THE INPUT: true; the input reads as it did. -/
def outsMinusSpec : ChangeSpec := { name := "outsMinus", fn := fun _ => fun
  | [d1, d2, d3] => { results := [.lit (.bool true)], args := [d1, d2, d3] }
  | _ => none }
def outsMinusRow : OpenClaim := { program := "ytodpajnpnobfmaa", sum := "5b81a0cad98c11a85894285287df0592ee3a09c33c4a53465bd52e903e1e5d9b", func := "fencepost/fencepostlaw15.OutsMinus", spec := "outsMinus", inPlace := ["slices.overlaps[fencepost/api.Out]"], unfollowed := true, recurses := true, apart := false }
def OutsMinusSaid : Prop := outsMinusRow.holds Try.pinned (OpenSpec.ofChange outsMinusSpec)

/-- ITS FALSE NEIGHBOUR: 'it returns false'. Refute it at one input. -/
def outsMinusWrong : ChangeSpec := { name := "outsMinus", fn := fun _ => fun
  | [d1, d2, d3] => { results := [.lit (.bool false)], args := [d1, d2, d3] }
  | _ => none }
def OutsMinusWrongFalsely : Prop := outsMinusRow.holds Try.pinned (OpenSpec.ofChange outsMinusWrong)

/-- 'fencepostlaw15.OutsLike': WHATEVER THE INPUT: true; the input reads as it did. -/
def outsLikeSpec : ChangeSpec := { name := "outsLike", fn := fun _ => fun
  | [d1, d2] => { results := [.lit (.bool true)], args := [d1, d2] }
  | _ => none }
def outsLikeRow : OpenClaim := { program := "ytodpajnpnobfmaa", sum := "5b81a0cad98c11a85894285287df0592ee3a09c33c4a53465bd52e903e1e5d9b", func := "fencepost/fencepostlaw15.OutsLike", spec := "outsLike", inPlace := ["slices.overlaps[fencepost/api.Out]"], unfollowed := true, recurses := true, apart := false }
def OutsLikeSaid : Prop := outsLikeRow.holds Try.pinned (OpenSpec.ofChange outsLikeSpec)

/-- ITS FALSE NEIGHBOUR: 'it returns false'. Refute it at one input. -/
def outsLikeWrong : ChangeSpec := { name := "outsLike", fn := fun _ => fun
  | [d1, d2] => { results := [.lit (.bool false)], args := [d1, d2] }
  | _ => none }
def OutsLikeWrongFalsely : Prop := outsLikeRow.holds Try.pinned (OpenSpec.ofChange outsLikeWrong)

/- THE SECOND FORM. 'bulk': how many values and letters a reading holds, each counted each time it is reached (what is shared counts as often as it is met; a slice's spare places count too). A statement '..UptoSaid' is the law's where the arguments, and the package variables that the reading takes, are together of bulk at most 1048576: NARROWER than '..Said'. Prove '..Said' where nothing that the law and all that it calls make is longer than what came in: it says more and counts as full. Else prove '..UptoSaid'. A law counts once. -/
mutual
def uptoBulk {H : Type} : DataW H → Nat
  | .lit (.string bytes) => bytes.length + 1
  | .lit _ => 1
  | .nil => 1
  | .ptr d => uptoBulk d + 1
  | .slice elems spare => uptoBulkAll elems + uptoBulkAll spare + 1
  | .agg parts => uptoBulkAll parts + 1
  | .iface _ d => uptoBulk d + 1
  | .map entries => uptoBulkEntries entries + 1
  | .held _ => 1
def uptoBulkAll {H : Type} : List (DataW H) → Nat
  | [] => 0
  | d :: r => uptoBulk d + uptoBulkAll r
def uptoBulkEntries {H : Type} : List (Lit × DataW H) → Nat
  | [] => 0
  | x :: r => uptoBulkEntry x + uptoBulkEntries r
def uptoBulkEntry {H : Type} : Lit × DataW H → Nat
  | (.string bytes, d) => bytes.length + uptoBulk d + 1
  | (_, d) => uptoBulk d + 1
 end
def uptoSmall : (H : Type) → List (DataW H) → Bool := fun _ ds => decide (uptoBulkAll ds ≤ 1048576)
def OpenSpec.upto (s : _root_.Go.ChangeSpec) : _root_.Go.OpenSpec := { _root_.Go.OpenSpec.ofChange s with cond := some uptoSmall }

/-- 'fencepostlaw15.OutsTells', WHERE WHAT IT READS IS OF BULK AT MOST 1048576: true; the input reads as it did. -/
def outsTellsUptoRow : OpenClaim := { program := "ytodpajnpnobfmaa", sum := "5b81a0cad98c11a85894285287df0592ee3a09c33c4a53465bd52e903e1e5d9b", func := "fencepost/fencepostlaw15.OutsTells", spec := "outsTells", inPlace := ["slices.overlaps[fencepost/api.Out]"], unfollowed := true, recurses := true, apart := false, narrowed := true }
def OutsTellsUptoSaid : Prop := outsTellsUptoRow.holds Try.pinned (OpenSpec.upto outsTellsSpec)

/-- 'fencepostlaw15.OutsOrder', WHERE WHAT IT READS IS OF BULK AT MOST 1048576: true; the input reads as it did. -/
def outsOrderUptoRow : OpenClaim := { program := "ytodpajnpnobfmaa", sum := "5b81a0cad98c11a85894285287df0592ee3a09c33c4a53465bd52e903e1e5d9b", func := "fencepost/fencepostlaw15.OutsOrder", spec := "outsOrder", inPlace := ["slices.overlaps[fencepost/api.Out]"], unfollowed := true, recurses := true, apart := false, narrowed := true }
def OutsOrderUptoSaid : Prop := outsOrderUptoRow.holds Try.pinned (OpenSpec.upto outsOrderSpec)

/-- 'fencepostlaw15.OutsPut', WHERE WHAT IT READS IS OF BULK AT MOST 1048576: true; the input reads as it did. -/
def outsPutUptoRow : OpenClaim := { program := "ytodpajnpnobfmaa", sum := "5b81a0cad98c11a85894285287df0592ee3a09c33c4a53465bd52e903e1e5d9b", func := "fencepost/fencepostlaw15.OutsPut", spec := "outsPut", inPlace := ["slices.overlaps[fencepost/api.Out]"], unfollowed := true, recurses := true, apart := false, narrowed := true }
def OutsPutUptoSaid : Prop := outsPutUptoRow.holds Try.pinned (OpenSpec.upto outsPutSpec)

/-- 'fencepostlaw15.OutsHas', WHERE WHAT IT READS IS OF BULK AT MOST 1048576: true; the input reads as it did. -/
def outsHasUptoRow : OpenClaim := { program := "ytodpajnpnobfmaa", sum := "5b81a0cad98c11a85894285287df0592ee3a09c33c4a53465bd52e903e1e5d9b", func := "fencepost/fencepostlaw15.OutsHas", spec := "outsHas", inPlace := ["slices.overlaps[fencepost/api.Out]"], unfollowed := true, recurses := true, apart := false, narrowed := true }
def OutsHasUptoSaid : Prop := outsHasUptoRow.holds Try.pinned (OpenSpec.upto outsHasSpec)

/-- 'fencepostlaw15.OutsMinus', WHERE WHAT IT READS IS OF BULK AT MOST 1048576: true; the input reads as it did. -/
def outsMinusUptoRow : OpenClaim := { program := "ytodpajnpnobfmaa", sum := "5b81a0cad98c11a85894285287df0592ee3a09c33c4a53465bd52e903e1e5d9b", func := "fencepost/fencepostlaw15.OutsMinus", spec := "outsMinus", inPlace := ["slices.overlaps[fencepost/api.Out]"], unfollowed := true, recurses := true, apart := false, narrowed := true }
def OutsMinusUptoSaid : Prop := outsMinusUptoRow.holds Try.pinned (OpenSpec.upto outsMinusSpec)

/-- 'fencepostlaw15.OutsLike', WHERE WHAT IT READS IS OF BULK AT MOST 1048576: true; the input reads as it did. -/
def outsLikeUptoRow : OpenClaim := { program := "ytodpajnpnobfmaa", sum := "5b81a0cad98c11a85894285287df0592ee3a09c33c4a53465bd52e903e1e5d9b", func := "fencepost/fencepostlaw15.OutsLike", spec := "outsLike", inPlace := ["slices.overlaps[fencepost/api.Out]"], unfollowed := true, recurses := true, apart := false, narrowed := true }
def OutsLikeUptoSaid : Prop := outsLikeUptoRow.holds Try.pinned (OpenSpec.upto outsLikeSpec)

end Rows
end Go.Proofs.Ytodpajnpnobfmaa
