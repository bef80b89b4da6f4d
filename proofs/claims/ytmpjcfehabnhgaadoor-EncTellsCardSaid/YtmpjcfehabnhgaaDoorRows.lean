/-
  NARROWER THAN 'FOR EVERY INPUT', by the rows' own cells (each row's printed sentence says how): EncTells: laid · EncBack: laid · EncPrints: laid · EncApart: laid · EncCut: laid · EncKey: laid.
  DERIVED. THE GIVEN ROWS OF THIS SEAT. 6 by the template 'for every input the law returns true; each argument reads behind the call as it read before'; 0 by the template 'total and deterministic' (their statements: YtmpjcfehabnhgaaDoorTotals.lean).
  GIVEN WITH THE SEED: the statements are not yours to turn. If you find one false, say at which input.
  Laid BY PROGRAM, IN A SANDBOX (cutbox-rows.mjs): the forced cells as the released guide's own fill.sh prints them over the translation 3936f8c95fe15b5a… (all of the seat's roots in one cut). By AI agents, Wed Nov 11 2026. No macro, syntax, notation, axiom, sorry.
-/
import Derived.Test.YtmpjcfehabnhgaaDoorChecked
import GoSem.Claim
import GoSem.ClaimJoined
import GoSem.ClaimMapViews
import Derived.JoinedTies
import Derived.KernelRfl
namespace Go.Proofs.YtmpjcfehabnhgaaDoor
/- THE CELL 'sum', in the pinned program and in every row, IS THE sha256 OF THE DUMP (.gsa) THAT YtmpjcfehabnhgaaDoorProg.lean LOADS. Nothing in Lean hashes anything: it is a label: what it is worth is what the hold of that sum in a sandbox is worth. -/
noncomputable def Tryd.pinned : Pinned := { name := "ytmpjcfehabnhgaadoor", sum := "3936f8c95fe15b5a3b3753a801cd886ba8badb0e9cf482e5b232e56de7d195c1", checked := Tryd.checked }
namespace Rows
def none {H : Type} : Left H := { results := [], args := [] }

/- WHAT THE LISTED PACKAGE-LEVEL VARIABLES READ AS WHEN THE CALL BEGINS. Each datum BY PROGRAM (the guide's laid-datum.mjs) off the statement by which the dump's own 'gosem.cut.vars' lays the variable. In a bare row this is a premise. The card (YtmpjcfehabnhgaaDoorCards.lean) ties it to the program's text. -/
def laid_fencepost_enc_errEnd {H : Type} : DataW H := .iface "*errors.errorString" (.ptr (.agg [.lit (.string [116, 104, 101, 32, 115, 116, 97, 116, 101, 32, 105, 115, 32, 119, 104, 111, 108, 101, 44, 32, 97, 110, 100, 32, 110, 111, 32, 110, 117, 109, 98, 101, 114, 32, 105, 115, 32, 108, 101, 102, 116])]))
def laid_fencepost_enc_errLack {H : Type} : DataW H := .iface "*errors.errorString" (.ptr (.agg [.lit (.string [97, 32, 110, 117, 109, 98, 101, 114, 32, 105, 115, 32, 108, 97, 99, 107, 105, 110, 103])]))
def laid_fencepost_enc_errCount {H : Type} : DataW H := .iface "*errors.errorString" (.ptr (.agg [.lit (.string [97, 32, 99, 111, 117, 110, 116, 32, 105, 115, 32, 98, 101, 108, 111, 119, 32, 48, 44, 32, 111, 114, 32, 97, 98, 111, 118, 101, 32, 104, 111, 119, 32, 109, 97, 110, 121, 32, 110, 117, 109, 98, 101, 114, 115, 32, 97, 114, 101, 32, 108, 101, 102, 116])]))
def laid_fencepost_enc_errTruth {H : Type} : DataW H := .iface "*errors.errorString" (.ptr (.agg [.lit (.string [97, 32, 110, 117, 109, 98, 101, 114, 32, 105, 115, 32, 110, 101, 105, 116, 104, 101, 114, 32, 116, 114, 117, 101, 32, 110, 111, 114, 32, 102, 97, 108, 115, 101])]))
def laid_fencepost_enc_errLeft {H : Type} : DataW H := .iface "*errors.errorString" (.ptr (.agg [.lit (.string [97, 32, 110, 117, 109, 98, 101, 114, 32, 105, 115, 32, 108, 101, 102, 116, 32, 98, 101, 104, 105, 110, 100, 32, 116, 104, 101, 32, 115, 116, 97, 116, 101])]))

/-- 'fencepostlaw12.EncTells': WHATEVER THE INPUT: true; the input reads as it did. -/
def encTellsSpec : ChangeSpec := { name := "encTells", fn := fun _ => fun
  | [d1, d2, d3] => { results := [.lit (.bool true)], args := [d1, d2, d3] }
  | _ => none }
def encTellsRow : OpenClaim := { program := "ytmpjcfehabnhgaadoor", sum := "3936f8c95fe15b5a3b3753a801cd886ba8badb0e9cf482e5b232e56de7d195c1", func := "fencepost/fencepostlaw12.EncTells", spec := "encTells", inPlace := ["internal/abi.NoEscape", "internal/bytealg.IndexByteString", "internal/bytealg.IndexString", "internal/reflectlite.TypeOf"], unfollowed := true, recurses := true, named := ["internal/bytealg.MaxLen", "fencepost/enc.errEnd", "fencepost/enc.errLack", "fencepost/enc.errCount", "fencepost/enc.errTruth", "fencepost/enc.errLeft"], apart := false, laid := [("fencepost/enc.errEnd", laid_fencepost_enc_errEnd), ("fencepost/enc.errLack", laid_fencepost_enc_errLack), ("fencepost/enc.errCount", laid_fencepost_enc_errCount), ("fencepost/enc.errTruth", laid_fencepost_enc_errTruth), ("fencepost/enc.errLeft", laid_fencepost_enc_errLeft)] }
def EncTellsSaid : Prop := encTellsRow.holds Tryd.pinned (OpenSpec.ofChange encTellsSpec)

/-- ITS FALSE NEIGHBOUR: 'it returns false'. Refute it at one input. -/
def encTellsWrong : ChangeSpec := { name := "encTells", fn := fun _ => fun
  | [d1, d2, d3] => { results := [.lit (.bool false)], args := [d1, d2, d3] }
  | _ => none }
def EncTellsWrongFalsely : Prop := encTellsRow.holds Tryd.pinned (OpenSpec.ofChange encTellsWrong)

/-- 'fencepostlaw12.EncBack': WHATEVER THE INPUT: true; the input reads as it did. -/
def encBackSpec : ChangeSpec := { name := "encBack", fn := fun _ => fun
  | [d] => { results := [.lit (.bool true)], args := [d] }
  | _ => none }
def encBackRow : OpenClaim := { program := "ytmpjcfehabnhgaadoor", sum := "3936f8c95fe15b5a3b3753a801cd886ba8badb0e9cf482e5b232e56de7d195c1", func := "fencepost/fencepostlaw12.EncBack", spec := "encBack", inPlace := ["internal/abi.NoEscape", "internal/bytealg.IndexByteString", "internal/bytealg.IndexString", "internal/reflectlite.TypeOf"], unfollowed := true, recurses := true, named := ["internal/bytealg.MaxLen", "fencepost/enc.errEnd", "fencepost/enc.errLack", "fencepost/enc.errCount", "fencepost/enc.errTruth", "fencepost/enc.errLeft"], apart := false, laid := [("fencepost/enc.errEnd", laid_fencepost_enc_errEnd), ("fencepost/enc.errLack", laid_fencepost_enc_errLack), ("fencepost/enc.errCount", laid_fencepost_enc_errCount), ("fencepost/enc.errTruth", laid_fencepost_enc_errTruth), ("fencepost/enc.errLeft", laid_fencepost_enc_errLeft)] }
def EncBackSaid : Prop := encBackRow.holds Tryd.pinned (OpenSpec.ofChange encBackSpec)

/-- ITS FALSE NEIGHBOUR: 'it returns false'. Refute it at one input. -/
def encBackWrong : ChangeSpec := { name := "encBack", fn := fun _ => fun
  | [d] => { results := [.lit (.bool false)], args := [d] }
  | _ => none }
def EncBackWrongFalsely : Prop := encBackRow.holds Tryd.pinned (OpenSpec.ofChange encBackWrong)

/-- 'fencepostlaw12.EncPrints': WHATEVER THE INPUT: true; the input reads as it did. -/
def encPrintsSpec : ChangeSpec := { name := "encPrints", fn := fun _ => fun
  | [d1, d2] => { results := [.lit (.bool true)], args := [d1, d2] }
  | _ => none }
def encPrintsRow : OpenClaim := { program := "ytmpjcfehabnhgaadoor", sum := "3936f8c95fe15b5a3b3753a801cd886ba8badb0e9cf482e5b232e56de7d195c1", func := "fencepost/fencepostlaw12.EncPrints", spec := "encPrints", inPlace := ["internal/abi.NoEscape", "internal/bytealg.IndexByteString", "internal/bytealg.IndexString", "internal/reflectlite.TypeOf"], unfollowed := true, recurses := true, named := ["internal/bytealg.MaxLen", "fencepost/enc.errEnd", "fencepost/enc.errLack", "fencepost/enc.errCount", "fencepost/enc.errTruth", "fencepost/enc.errLeft"], apart := false, laid := [("fencepost/enc.errEnd", laid_fencepost_enc_errEnd), ("fencepost/enc.errLack", laid_fencepost_enc_errLack), ("fencepost/enc.errCount", laid_fencepost_enc_errCount), ("fencepost/enc.errTruth", laid_fencepost_enc_errTruth), ("fencepost/enc.errLeft", laid_fencepost_enc_errLeft)] }
def EncPrintsSaid : Prop := encPrintsRow.holds Tryd.pinned (OpenSpec.ofChange encPrintsSpec)

/-- ITS FALSE NEIGHBOUR: 'it returns false'. Refute it at one input. -/
def encPrintsWrong : ChangeSpec := { name := "encPrints", fn := fun _ => fun
  | [d1, d2] => { results := [.lit (.bool false)], args := [d1, d2] }
  | _ => none }
def EncPrintsWrongFalsely : Prop := encPrintsRow.holds Tryd.pinned (OpenSpec.ofChange encPrintsWrong)

/-- 'fencepostlaw12.EncApart': WHATEVER THE INPUT: true; the input reads as it did. -/
def encApartSpec : ChangeSpec := { name := "encApart", fn := fun _ => fun
  | [d1, d2] => { results := [.lit (.bool true)], args := [d1, d2] }
  | _ => none }
def encApartRow : OpenClaim := { program := "ytmpjcfehabnhgaadoor", sum := "3936f8c95fe15b5a3b3753a801cd886ba8badb0e9cf482e5b232e56de7d195c1", func := "fencepost/fencepostlaw12.EncApart", spec := "encApart", inPlace := ["internal/abi.NoEscape", "internal/bytealg.IndexByteString", "internal/bytealg.IndexString", "internal/reflectlite.TypeOf"], unfollowed := true, recurses := true, named := ["internal/bytealg.MaxLen", "fencepost/enc.errEnd", "fencepost/enc.errLack", "fencepost/enc.errCount", "fencepost/enc.errTruth", "fencepost/enc.errLeft"], apart := false, laid := [("fencepost/enc.errEnd", laid_fencepost_enc_errEnd), ("fencepost/enc.errLack", laid_fencepost_enc_errLack), ("fencepost/enc.errCount", laid_fencepost_enc_errCount), ("fencepost/enc.errTruth", laid_fencepost_enc_errTruth), ("fencepost/enc.errLeft", laid_fencepost_enc_errLeft)] }
def EncApartSaid : Prop := encApartRow.holds Tryd.pinned (OpenSpec.ofChange encApartSpec)

/-- ITS FALSE NEIGHBOUR: 'it returns false'. Refute it at one input. -/
def encApartWrong : ChangeSpec := { name := "encApart", fn := fun _ => fun
  | [d1, d2] => { results := [.lit (.bool false)], args := [d1, d2] }
  | _ => none }
def EncApartWrongFalsely : Prop := encApartRow.holds Tryd.pinned (OpenSpec.ofChange encApartWrong)

/-- 'fencepostlaw12.EncCut': WHATEVER THE INPUT: true; the input reads as it did. -/
def encCutSpec : ChangeSpec := { name := "encCut", fn := fun _ => fun
  | [d1, d2, d3] => { results := [.lit (.bool true)], args := [d1, d2, d3] }
  | _ => none }
def encCutRow : OpenClaim := { program := "ytmpjcfehabnhgaadoor", sum := "3936f8c95fe15b5a3b3753a801cd886ba8badb0e9cf482e5b232e56de7d195c1", func := "fencepost/fencepostlaw12.EncCut", spec := "encCut", inPlace := ["internal/abi.NoEscape", "internal/bytealg.IndexByteString", "internal/bytealg.IndexString", "internal/reflectlite.TypeOf"], unfollowed := true, recurses := true, named := ["internal/bytealg.MaxLen", "fencepost/enc.errEnd", "fencepost/enc.errLack", "fencepost/enc.errCount", "fencepost/enc.errTruth", "fencepost/enc.errLeft"], apart := false, laid := [("fencepost/enc.errEnd", laid_fencepost_enc_errEnd), ("fencepost/enc.errLack", laid_fencepost_enc_errLack), ("fencepost/enc.errCount", laid_fencepost_enc_errCount), ("fencepost/enc.errTruth", laid_fencepost_enc_errTruth), ("fencepost/enc.errLeft", laid_fencepost_enc_errLeft)] }
def EncCutSaid : Prop := encCutRow.holds Tryd.pinned (OpenSpec.ofChange encCutSpec)

/-- ITS FALSE NEIGHBOUR: 'it returns false'. Refute it at one input. -/
def encCutWrong : ChangeSpec := { name := "encCut", fn := fun _ => fun
  | [d1, d2, d3] => { results := [.lit (.bool false)], args := [d1, d2, d3] }
  | _ => none }
def EncCutWrongFalsely : Prop := encCutRow.holds Tryd.pinned (OpenSpec.ofChange encCutWrong)

/-- 'fencepostlaw12.EncKey': WHATEVER THE INPUT: true; the input reads as it did. -/
def encKeySpec : ChangeSpec := { name := "encKey", fn := fun _ => fun
  | [d] => { results := [.lit (.bool true)], args := [d] }
  | _ => none }
def encKeyRow : OpenClaim := { program := "ytmpjcfehabnhgaadoor", sum := "3936f8c95fe15b5a3b3753a801cd886ba8badb0e9cf482e5b232e56de7d195c1", func := "fencepost/fencepostlaw12.EncKey", spec := "encKey", inPlace := ["internal/abi.NoEscape", "internal/bytealg.IndexByteString", "internal/bytealg.IndexString", "internal/reflectlite.TypeOf"], unfollowed := true, recurses := true, named := ["internal/bytealg.MaxLen", "fencepost/enc.errEnd", "fencepost/enc.errLack", "fencepost/enc.errCount", "fencepost/enc.errTruth", "fencepost/enc.errLeft"], apart := false, laid := [("fencepost/enc.errEnd", laid_fencepost_enc_errEnd), ("fencepost/enc.errLack", laid_fencepost_enc_errLack), ("fencepost/enc.errCount", laid_fencepost_enc_errCount), ("fencepost/enc.errTruth", laid_fencepost_enc_errTruth), ("fencepost/enc.errLeft", laid_fencepost_enc_errLeft)] }
def EncKeySaid : Prop := encKeyRow.holds Tryd.pinned (OpenSpec.ofChange encKeySpec)

/-- ITS FALSE NEIGHBOUR: 'it returns false'. Refute it at one input. -/
def encKeyWrong : ChangeSpec := { name := "encKey", fn := fun _ => fun
  | [d] => { results := [.lit (.bool false)], args := [d] }
  | _ => none }
def EncKeyWrongFalsely : Prop := encKeyRow.holds Tryd.pinned (OpenSpec.ofChange encKeyWrong)

/- THE SECOND FORM. 'bulk': how many values and letters a reading holds, each counted each time it is reached (what is shared counts as often as it is met; a slice's spare places count too). A statement '..UptoSaid' is the law's where the arguments, and the package variables that the reading takes, are together of bulk at most 1048576: NARROWER than '..Said'. Prove '..Said' where nothing that the law and all that it calls make is longer than what came in: it says more and counts as full. Else prove '..UptoSaid'. A law counts once. -/
mutual
def uptoBulk {H : Type} : DataW H → Nat
  | .lit (.string bytes) => bytes.length + 1
  | .lit _ => 1
  | .nil => 1
  | .ptr d => uptoBulk d + 1
  | .slice elems spare => uptoBulkAll elems + uptoBulkAll spare + 1
  | .agg parts => uptoBulkAll parts + 1
  | .iface _ d => uptoBulk d + 1
  | .map entries => uptoBulkEntries entries + 1
  | .held _ => 1
def uptoBulkAll {H : Type} : List (DataW H) → Nat
  | [] => 0
  | d :: r => uptoBulk d + uptoBulkAll r
def uptoBulkEntries {H : Type} : List (Lit × DataW H) → Nat
  | [] => 0
  | x :: r => uptoBulkEntry x + uptoBulkEntries r
def uptoBulkEntry {H : Type} : Lit × DataW H → Nat
  | (.string bytes, d) => bytes.length + uptoBulk d + 1
  | (_, d) => uptoBulk d + 1
 end
def uptoSmall : (H : Type) → List (DataW H) → Bool := fun _ ds => decide (uptoBulkAll ds ≤ 1048576)
def OpenSpec.upto (s : _root_.Go.ChangeSpec) : _root_.Go.OpenSpec := { _root_.Go.OpenSpec.ofChange s with cond := some uptoSmall }

/-- 'fencepostlaw12.EncTells', WHERE WHAT IT READS IS OF BULK AT MOST 1048576: true; the input reads as it did. -/
def encTellsUptoRow : OpenClaim := { program := "ytmpjcfehabnhgaadoor", sum := "3936f8c95fe15b5a3b3753a801cd886ba8badb0e9cf482e5b232e56de7d195c1", func := "fencepost/fencepostlaw12.EncTells", spec := "encTells", inPlace := ["internal/abi.NoEscape", "internal/bytealg.IndexByteString", "internal/bytealg.IndexString", "internal/reflectlite.TypeOf"], unfollowed := true, recurses := true, named := ["internal/bytealg.MaxLen", "fencepost/enc.errEnd", "fencepost/enc.errLack", "fencepost/enc.errCount", "fencepost/enc.errTruth", "fencepost/enc.errLeft"], apart := false, laid := [("fencepost/enc.errEnd", laid_fencepost_enc_errEnd), ("fencepost/enc.errLack", laid_fencepost_enc_errLack), ("fencepost/enc.errCount", laid_fencepost_enc_errCount), ("fencepost/enc.errTruth", laid_fencepost_enc_errTruth), ("fencepost/enc.errLeft", laid_fencepost_enc_errLeft)], narrowed := true }
def EncTellsUptoSaid : Prop := encTellsUptoRow.holds Tryd.pinned (OpenSpec.upto encTellsSpec)

/-- 'fencepostlaw12.EncBack', WHERE WHAT IT READS IS OF BULK AT MOST 1048576: true; the input reads as it did. -/
def encBackUptoRow : OpenClaim := { program := "ytmpjcfehabnhgaadoor", sum := "3936f8c95fe15b5a3b3753a801cd886ba8badb0e9cf482e5b232e56de7d195c1", func := "fencepost/fencepostlaw12.EncBack", spec := "encBack", inPlace := ["internal/abi.NoEscape", "internal/bytealg.IndexByteString", "internal/bytealg.IndexString", "internal/reflectlite.TypeOf"], unfollowed := true, recurses := true, named := ["internal/bytealg.MaxLen", "fencepost/enc.errEnd", "fencepost/enc.errLack", "fencepost/enc.errCount", "fencepost/enc.errTruth", "fencepost/enc.errLeft"], apart := false, laid := [("fencepost/enc.errEnd", laid_fencepost_enc_errEnd), ("fencepost/enc.errLack", laid_fencepost_enc_errLack), ("fencepost/enc.errCount", laid_fencepost_enc_errCount), ("fencepost/enc.errTruth", laid_fencepost_enc_errTruth), ("fencepost/enc.errLeft", laid_fencepost_enc_errLeft)], narrowed := true }
def EncBackUptoSaid : Prop := encBackUptoRow.holds Tryd.pinned (OpenSpec.upto encBackSpec)

/-- 'fencepostlaw12.EncPrints', WHERE WHAT IT READS IS OF BULK AT MOST 1048576: true; the input reads as it did. -/
def encPrintsUptoRow : OpenClaim := { program := "ytmpjcfehabnhgaadoor", sum := "3936f8c95fe15b5a3b3753a801cd886ba8badb0e9cf482e5b232e56de7d195c1", func := "fencepost/fencepostlaw12.EncPrints", spec := "encPrints", inPlace := ["internal/abi.NoEscape", "internal/bytealg.IndexByteString", "internal/bytealg.IndexString", "internal/reflectlite.TypeOf"], unfollowed := true, recurses := true, named := ["internal/bytealg.MaxLen", "fencepost/enc.errEnd", "fencepost/enc.errLack", "fencepost/enc.errCount", "fencepost/enc.errTruth", "fencepost/enc.errLeft"], apart := false, laid := [("fencepost/enc.errEnd", laid_fencepost_enc_errEnd), ("fencepost/enc.errLack", laid_fencepost_enc_errLack), ("fencepost/enc.errCount", laid_fencepost_enc_errCount), ("fencepost/enc.errTruth", laid_fencepost_enc_errTruth), ("fencepost/enc.errLeft", laid_fencepost_enc_errLeft)], narrowed := true }
def EncPrintsUptoSaid : Prop := encPrintsUptoRow.holds Tryd.pinned (OpenSpec.upto encPrintsSpec)

/-- 'fencepostlaw12.EncApart', WHERE WHAT IT READS IS OF BULK AT MOST 1048576: true; the input reads as it did. -/
def encApartUptoRow : OpenClaim := { program := "ytmpjcfehabnhgaadoor", sum := "3936f8c95fe15b5a3b3753a801cd886ba8badb0e9cf482e5b232e56de7d195c1", func := "fencepost/fencepostlaw12.EncApart", spec := "encApart", inPlace := ["internal/abi.NoEscape", "internal/bytealg.IndexByteString", "internal/bytealg.IndexString", "internal/reflectlite.TypeOf"], unfollowed := true, recurses := true, named := ["internal/bytealg.MaxLen", "fencepost/enc.errEnd", "fencepost/enc.errLack", "fencepost/enc.errCount", "fencepost/enc.errTruth", "fencepost/enc.errLeft"], apart := false, laid := [("fencepost/enc.errEnd", laid_fencepost_enc_errEnd), ("fencepost/enc.errLack", laid_fencepost_enc_errLack), ("fencepost/enc.errCount", laid_fencepost_enc_errCount), ("fencepost/enc.errTruth", laid_fencepost_enc_errTruth), ("fencepost/enc.errLeft", laid_fencepost_enc_errLeft)], narrowed := true }
def EncApartUptoSaid : Prop := encApartUptoRow.holds Tryd.pinned (OpenSpec.upto encApartSpec)

/-- 'fencepostlaw12.EncCut', WHERE WHAT IT READS IS OF BULK AT MOST 1048576: true; the input reads as it did. -/
def encCutUptoRow : OpenClaim := { program := "ytmpjcfehabnhgaadoor", sum := "3936f8c95fe15b5a3b3753a801cd886ba8badb0e9cf482e5b232e56de7d195c1", func := "fencepost/fencepostlaw12.EncCut", spec := "encCut", inPlace := ["internal/abi.NoEscape", "internal/bytealg.IndexByteString", "internal/bytealg.IndexString", "internal/reflectlite.TypeOf"], unfollowed := true, recurses := true, named := ["internal/bytealg.MaxLen", "fencepost/enc.errEnd", "fencepost/enc.errLack", "fencepost/enc.errCount", "fencepost/enc.errTruth", "fencepost/enc.errLeft"], apart := false, laid := [("fencepost/enc.errEnd", laid_fencepost_enc_errEnd), ("fencepost/enc.errLack", laid_fencepost_enc_errLack), ("fencepost/enc.errCount", laid_fencepost_enc_errCount), ("fencepost/enc.errTruth", laid_fencepost_enc_errTruth), ("fencepost/enc.errLeft", laid_fencepost_enc_errLeft)], narrowed := true }
def EncCutUptoSaid : Prop := encCutUptoRow.holds Tryd.pinned (OpenSpec.upto encCutSpec)

/-- 'fencepostlaw12.EncKey', WHERE WHAT IT READS IS OF BULK AT MOST 1048576: true; the input reads as it did. -/
def encKeyUptoRow : OpenClaim := { program := "ytmpjcfehabnhgaadoor", sum := "3936f8c95fe15b5a3b3753a801cd886ba8badb0e9cf482e5b232e56de7d195c1", func := "fencepost/fencepostlaw12.EncKey", spec := "encKey", inPlace := ["internal/abi.NoEscape", "internal/bytealg.IndexByteString", "internal/bytealg.IndexString", "internal/reflectlite.TypeOf"], unfollowed := true, recurses := true, named := ["internal/bytealg.MaxLen", "fencepost/enc.errEnd", "fencepost/enc.errLack", "fencepost/enc.errCount", "fencepost/enc.errTruth", "fencepost/enc.errLeft"], apart := false, laid := [("fencepost/enc.errEnd", laid_fencepost_enc_errEnd), ("fencepost/enc.errLack", laid_fencepost_enc_errLack), ("fencepost/enc.errCount", laid_fencepost_enc_errCount), ("fencepost/enc.errTruth", laid_fencepost_enc_errTruth), ("fencepost/enc.errLeft", laid_fencepost_enc_errLeft)], narrowed := true }
def EncKeyUptoSaid : Prop := encKeyUptoRow.holds Tryd.pinned (OpenSpec.upto encKeySpec)

end Rows
end Go.Proofs.YtmpjcfehabnhgaaDoor
