/-
  NARROWER THAN 'FOR EVERY INPUT', by the rows' own cells (each row's printed sentence says how): ValidTells: laid · ValidLabels: laid · ValidLocs: laid · ValidThreads: laid · ValidFirst: laid · ValidFences: laid.
  DERIVED. THE GIVEN ROWS OF THIS SEAT. 6 by the template 'for every input the law returns true; each argument reads behind the call as it read before'; 0 by the template 'total and deterministic' (their statements: YtclhgmopphhalaaGreatDoorTotals.lean).
  GIVEN WITH THE SEED: the statements are not yours to turn. If you find one false, say at which input.
  Laid BY PROGRAM, IN A SANDBOX (cutbox-rows.mjs): the forced cells as the released guide's own fill.sh prints them over the translation 7e06b699cb041e33… (all of the seat's roots in one cut). By AI agents, Wed Nov 11 2026. No macro, syntax, notation, axiom, sorry.
-/
import Derived.Test.YtclhgmopphhalaaGreatDoorChecked
import GoSem.Claim
import GoSem.ClaimJoined
import GoSem.ClaimMapViews
import Derived.JoinedTies
import Derived.KernelRfl
namespace Go.Proofs.YtclhgmopphhalaaGreatDoor
/- THE CELL 'sum', in the pinned program and in every row, IS THE sha256 OF THE DUMP (.gsa) THAT YtclhgmopphhalaaGreatDoorProg.lean LOADS. Nothing in Lean hashes anything: it is a label: what it is worth is what the hold of that sum in a sandbox is worth. -/
noncomputable def Tryz.pinned : Pinned := { name := "ytclhgmopphhalaagreatdoor", sum := "7e06b699cb041e33dae11e3c109691db01d49f586bdc2cd0c4b88c70a19951a6", checked := Tryz.checked }
namespace Rows
def none {H : Type} : Left H := { results := [], args := [] }

/- WHAT THE LISTED PACKAGE-LEVEL VARIABLES READ AS WHEN THE CALL BEGINS. Each datum BY PROGRAM (the guide's laid-datum.mjs) off the statement by which the dump's own 'gosem.cut.vars' lays the variable. In a bare row this is a premise. The card (YtclhgmopphhalaaGreatDoorCards.lean) ties it to the program's text. -/
def laid_errors_errorType {H : Type} : DataW H := .iface "internal/reflectlite.rtype" (.agg [.ptr (.lit (.string [101, 114, 114, 111, 114]))])
def laid_fencepost_word_regs {H : Type} : DataW H := .agg [.lit (.string [101, 97, 120]), .lit (.string [101, 98, 120]), .lit (.string [101, 99, 120]), .lit (.string [101, 100, 120])]

/-- 'fencepostlaw04.ValidTells': WHATEVER THE INPUT: true; the input reads as it did. -/
def validTellsSpec : ChangeSpec := { name := "validTells", fn := fun _ => fun
  | [d] => { results := [.lit (.bool true)], args := [d] }
  | _ => none }
def validTellsRow : OpenClaim := { program := "ytclhgmopphhalaagreatdoor", sum := "7e06b699cb041e33dae11e3c109691db01d49f586bdc2cd0c4b88c70a19951a6", func := "fencepost/fencepostlaw04.ValidTells", spec := "validTells", inPlace := ["internal/reflectlite.ValueOf", "(internal/reflectlite.Value).Type", "(internal/reflectlite.Value).IsNil", "internal/reflectlite.TypeOf", "(internal/reflectlite.Value).Elem", "(internal/reflectlite.Value).Set"], unfollowed := true, recurses := true, named := ["fencepost/word.regs", "errors.errorType"], apart := false, laid := [("errors.errorType", laid_errors_errorType), ("fencepost/word.regs", laid_fencepost_word_regs)] }
def ValidTellsSaid : Prop := validTellsRow.holds Tryz.pinned (OpenSpec.ofChange validTellsSpec)

/-- ITS FALSE NEIGHBOUR: 'it returns false'. Refute it at one input. -/
def validTellsWrong : ChangeSpec := { name := "validTells", fn := fun _ => fun
  | [d] => { results := [.lit (.bool false)], args := [d] }
  | _ => none }
def ValidTellsWrongFalsely : Prop := validTellsRow.holds Tryz.pinned (OpenSpec.ofChange validTellsWrong)

/-- 'fencepostlaw04.ValidLabels': WHATEVER THE INPUT: true; the input reads as it did. -/
def validLabelsSpec : ChangeSpec := { name := "validLabels", fn := fun _ => fun
  | [d] => { results := [.lit (.bool true)], args := [d] }
  | _ => none }
def validLabelsRow : OpenClaim := { program := "ytclhgmopphhalaagreatdoor", sum := "7e06b699cb041e33dae11e3c109691db01d49f586bdc2cd0c4b88c70a19951a6", func := "fencepost/fencepostlaw04.ValidLabels", spec := "validLabels", inPlace := ["internal/reflectlite.ValueOf", "(internal/reflectlite.Value).Type", "(internal/reflectlite.Value).IsNil", "internal/reflectlite.TypeOf", "(internal/reflectlite.Value).Elem", "(internal/reflectlite.Value).Set"], unfollowed := true, recurses := true, named := ["fencepost/word.regs", "errors.errorType"], apart := false, laid := [("errors.errorType", laid_errors_errorType), ("fencepost/word.regs", laid_fencepost_word_regs)] }
def ValidLabelsSaid : Prop := validLabelsRow.holds Tryz.pinned (OpenSpec.ofChange validLabelsSpec)

/-- ITS FALSE NEIGHBOUR: 'it returns false'. Refute it at one input. -/
def validLabelsWrong : ChangeSpec := { name := "validLabels", fn := fun _ => fun
  | [d] => { results := [.lit (.bool false)], args := [d] }
  | _ => none }
def ValidLabelsWrongFalsely : Prop := validLabelsRow.holds Tryz.pinned (OpenSpec.ofChange validLabelsWrong)

/-- 'fencepostlaw04.ValidLocs': WHATEVER THE INPUT: true; the input reads as it did. -/
def validLocsSpec : ChangeSpec := { name := "validLocs", fn := fun _ => fun
  | [d1, d2] => { results := [.lit (.bool true)], args := [d1, d2] }
  | _ => none }
def validLocsRow : OpenClaim := { program := "ytclhgmopphhalaagreatdoor", sum := "7e06b699cb041e33dae11e3c109691db01d49f586bdc2cd0c4b88c70a19951a6", func := "fencepost/fencepostlaw04.ValidLocs", spec := "validLocs", inPlace := ["internal/reflectlite.ValueOf", "(internal/reflectlite.Value).Type", "(internal/reflectlite.Value).IsNil", "internal/reflectlite.TypeOf", "(internal/reflectlite.Value).Elem", "(internal/reflectlite.Value).Set"], unfollowed := true, recurses := true, named := ["fencepost/word.regs", "errors.errorType"], apart := false, laid := [("errors.errorType", laid_errors_errorType), ("fencepost/word.regs", laid_fencepost_word_regs)] }
def ValidLocsSaid : Prop := validLocsRow.holds Tryz.pinned (OpenSpec.ofChange validLocsSpec)

/-- ITS FALSE NEIGHBOUR: 'it returns false'. Refute it at one input. -/
def validLocsWrong : ChangeSpec := { name := "validLocs", fn := fun _ => fun
  | [d1, d2] => { results := [.lit (.bool false)], args := [d1, d2] }
  | _ => none }
def ValidLocsWrongFalsely : Prop := validLocsRow.holds Tryz.pinned (OpenSpec.ofChange validLocsWrong)

/-- 'fencepostlaw04.ValidThreads': WHATEVER THE INPUT: true; the input reads as it did. -/
def validThreadsSpec : ChangeSpec := { name := "validThreads", fn := fun _ => fun
  | [d] => { results := [.lit (.bool true)], args := [d] }
  | _ => none }
def validThreadsRow : OpenClaim := { program := "ytclhgmopphhalaagreatdoor", sum := "7e06b699cb041e33dae11e3c109691db01d49f586bdc2cd0c4b88c70a19951a6", func := "fencepost/fencepostlaw04.ValidThreads", spec := "validThreads", inPlace := ["internal/reflectlite.ValueOf", "(internal/reflectlite.Value).Type", "(internal/reflectlite.Value).IsNil", "internal/reflectlite.TypeOf", "(internal/reflectlite.Value).Elem", "(internal/reflectlite.Value).Set"], unfollowed := true, recurses := true, named := ["fencepost/word.regs", "errors.errorType"], apart := false, laid := [("errors.errorType", laid_errors_errorType), ("fencepost/word.regs", laid_fencepost_word_regs)] }
def ValidThreadsSaid : Prop := validThreadsRow.holds Tryz.pinned (OpenSpec.ofChange validThreadsSpec)

/-- ITS FALSE NEIGHBOUR: 'it returns false'. Refute it at one input. -/
def validThreadsWrong : ChangeSpec := { name := "validThreads", fn := fun _ => fun
  | [d] => { results := [.lit (.bool false)], args := [d] }
  | _ => none }
def ValidThreadsWrongFalsely : Prop := validThreadsRow.holds Tryz.pinned (OpenSpec.ofChange validThreadsWrong)

/-- 'fencepostlaw04.ValidFirst': WHATEVER THE INPUT: true; the input reads as it did. -/
def validFirstSpec : ChangeSpec := { name := "validFirst", fn := fun _ => fun
  | [d1, d2] => { results := [.lit (.bool true)], args := [d1, d2] }
  | _ => none }
def validFirstRow : OpenClaim := { program := "ytclhgmopphhalaagreatdoor", sum := "7e06b699cb041e33dae11e3c109691db01d49f586bdc2cd0c4b88c70a19951a6", func := "fencepost/fencepostlaw04.ValidFirst", spec := "validFirst", inPlace := ["internal/reflectlite.ValueOf", "(internal/reflectlite.Value).Type", "(internal/reflectlite.Value).IsNil", "internal/reflectlite.TypeOf", "(internal/reflectlite.Value).Elem", "(internal/reflectlite.Value).Set"], unfollowed := true, recurses := true, named := ["fencepost/word.regs", "errors.errorType"], apart := false, laid := [("errors.errorType", laid_errors_errorType), ("fencepost/word.regs", laid_fencepost_word_regs)] }
def ValidFirstSaid : Prop := validFirstRow.holds Tryz.pinned (OpenSpec.ofChange validFirstSpec)

/-- ITS FALSE NEIGHBOUR: 'it returns false'. Refute it at one input. -/
def validFirstWrong : ChangeSpec := { name := "validFirst", fn := fun _ => fun
  | [d1, d2] => { results := [.lit (.bool false)], args := [d1, d2] }
  | _ => none }
def ValidFirstWrongFalsely : Prop := validFirstRow.holds Tryz.pinned (OpenSpec.ofChange validFirstWrong)

/-- 'fencepostlaw04.ValidFences': WHATEVER THE INPUT: true; the input reads as it did. -/
def validFencesSpec : ChangeSpec := { name := "validFences", fn := fun _ => fun
  | [d1, d2, d3] => { results := [.lit (.bool true)], args := [d1, d2, d3] }
  | _ => none }
def validFencesRow : OpenClaim := { program := "ytclhgmopphhalaagreatdoor", sum := "7e06b699cb041e33dae11e3c109691db01d49f586bdc2cd0c4b88c70a19951a6", func := "fencepost/fencepostlaw04.ValidFences", spec := "validFences", inPlace := ["internal/reflectlite.ValueOf", "(internal/reflectlite.Value).Type", "(internal/reflectlite.Value).IsNil", "internal/reflectlite.TypeOf", "(internal/reflectlite.Value).Elem", "(internal/reflectlite.Value).Set"], unfollowed := true, recurses := true, named := ["fencepost/word.regs", "errors.errorType"], apart := false, laid := [("errors.errorType", laid_errors_errorType), ("fencepost/word.regs", laid_fencepost_word_regs)] }
def ValidFencesSaid : Prop := validFencesRow.holds Tryz.pinned (OpenSpec.ofChange validFencesSpec)

/-- ITS FALSE NEIGHBOUR: 'it returns false'. Refute it at one input. -/
def validFencesWrong : ChangeSpec := { name := "validFences", fn := fun _ => fun
  | [d1, d2, d3] => { results := [.lit (.bool false)], args := [d1, d2, d3] }
  | _ => none }
def ValidFencesWrongFalsely : Prop := validFencesRow.holds Tryz.pinned (OpenSpec.ofChange validFencesWrong)

/- THE SECOND FORM. 'bulk': how many values and letters a reading holds, each counted each time it is reached (what is shared counts as often as it is met; a slice's spare places count too). A statement '..UptoSaid' is the law's where the arguments, and the package variables that the reading takes, are together of bulk at most 1048576: NARROWER than '..Said'. Prove '..Said' where nothing that the law and all that it calls make is longer than what came in: it says more and counts as full. Else prove '..UptoSaid'. A law counts once. -/
mutual
def uptoBulk {H : Type} : DataW H → Nat
  | .lit (.string bytes) => bytes.length + 1
  | .lit _ => 1
  | .nil => 1
  | .ptr d => uptoBulk d + 1
  | .slice elems spare => uptoBulkAll elems + uptoBulkAll spare + 1
  | .agg parts => uptoBulkAll parts + 1
  | .iface _ d => uptoBulk d + 1
  | .map entries => uptoBulkEntries entries + 1
  | .held _ => 1
def uptoBulkAll {H : Type} : List (DataW H) → Nat
  | [] => 0
  | d :: r => uptoBulk d + uptoBulkAll r
def uptoBulkEntries {H : Type} : List (Lit × DataW H) → Nat
  | [] => 0
  | x :: r => uptoBulkEntry x + uptoBulkEntries r
def uptoBulkEntry {H : Type} : Lit × DataW H → Nat
  | (.string bytes, d) => bytes.length + uptoBulk d + 1
  | (_, d) => uptoBulk d + 1
 end
def uptoSmall : (H : Type) → List (DataW H) → Bool := fun _ ds => decide (uptoBulkAll ds ≤ 1048576)
def OpenSpec.upto (s : _root_.Go.ChangeSpec) : _root_.Go.OpenSpec := { _root_.Go.OpenSpec.ofChange s with cond := some uptoSmall }

/-- 'fencepostlaw04.ValidTells', WHERE WHAT IT READS IS OF BULK AT MOST 1048576: true; the input reads as it did. -/
def validTellsUptoRow : OpenClaim := { program := "ytclhgmopphhalaagreatdoor", sum := "7e06b699cb041e33dae11e3c109691db01d49f586bdc2cd0c4b88c70a19951a6", func := "fencepost/fencepostlaw04.ValidTells", spec := "validTells", inPlace := ["internal/reflectlite.ValueOf", "(internal/reflectlite.Value).Type", "(internal/reflectlite.Value).IsNil", "internal/reflectlite.TypeOf", "(internal/reflectlite.Value).Elem", "(internal/reflectlite.Value).Set"], unfollowed := true, recurses := true, named := ["fencepost/word.regs", "errors.errorType"], apart := false, laid := [("errors.errorType", laid_errors_errorType), ("fencepost/word.regs", laid_fencepost_word_regs)], narrowed := true }
def ValidTellsUptoSaid : Prop := validTellsUptoRow.holds Tryz.pinned (OpenSpec.upto validTellsSpec)

/-- 'fencepostlaw04.ValidLabels', WHERE WHAT IT READS IS OF BULK AT MOST 1048576: true; the input reads as it did. -/
def validLabelsUptoRow : OpenClaim := { program := "ytclhgmopphhalaagreatdoor", sum := "7e06b699cb041e33dae11e3c109691db01d49f586bdc2cd0c4b88c70a19951a6", func := "fencepost/fencepostlaw04.ValidLabels", spec := "validLabels", inPlace := ["internal/reflectlite.ValueOf", "(internal/reflectlite.Value).Type", "(internal/reflectlite.Value).IsNil", "internal/reflectlite.TypeOf", "(internal/reflectlite.Value).Elem", "(internal/reflectlite.Value).Set"], unfollowed := true, recurses := true, named := ["fencepost/word.regs", "errors.errorType"], apart := false, laid := [("errors.errorType", laid_errors_errorType), ("fencepost/word.regs", laid_fencepost_word_regs)], narrowed := true }
def ValidLabelsUptoSaid : Prop := validLabelsUptoRow.holds Tryz.pinned (OpenSpec.upto validLabelsSpec)

/-- 'fencepostlaw04.ValidLocs', WHERE WHAT IT READS IS OF BULK AT MOST 1048576: true; the input reads as it did. -/
def validLocsUptoRow : OpenClaim := { program := "ytclhgmopphhalaagreatdoor", sum := "7e06b699cb041e33dae11e3c109691db01d49f586bdc2cd0c4b88c70a19951a6", func := "fencepost/fencepostlaw04.ValidLocs", spec := "validLocs", inPlace := ["internal/reflectlite.ValueOf", "(internal/reflectlite.Value).Type", "(internal/reflectlite.Value).IsNil", "internal/reflectlite.TypeOf", "(internal/reflectlite.Value).Elem", "(internal/reflectlite.Value).Set"], unfollowed := true, recurses := true, named := ["fencepost/word.regs", "errors.errorType"], apart := false, laid := [("errors.errorType", laid_errors_errorType), ("fencepost/word.regs", laid_fencepost_word_regs)], narrowed := true }
def ValidLocsUptoSaid : Prop := validLocsUptoRow.holds Tryz.pinned (OpenSpec.upto validLocsSpec)

/-- 'fencepostlaw04.ValidThreads', WHERE WHAT IT READS IS OF BULK AT MOST 1048576: true; the input reads as it did. -/
def validThreadsUptoRow : OpenClaim := { program := "ytclhgmopphhalaagreatdoor", sum := "7e06b699cb041e33dae11e3c109691db01d49f586bdc2cd0c4b88c70a19951a6", func := "fencepost/fencepostlaw04.ValidThreads", spec := "validThreads", inPlace := ["internal/reflectlite.ValueOf", "(internal/reflectlite.Value).Type", "(internal/reflectlite.Value).IsNil", "internal/reflectlite.TypeOf", "(internal/reflectlite.Value).Elem", "(internal/reflectlite.Value).Set"], unfollowed := true, recurses := true, named := ["fencepost/word.regs", "errors.errorType"], apart := false, laid := [("errors.errorType", laid_errors_errorType), ("fencepost/word.regs", laid_fencepost_word_regs)], narrowed := true }
def ValidThreadsUptoSaid : Prop := validThreadsUptoRow.holds Tryz.pinned (OpenSpec.upto validThreadsSpec)

/-- 'fencepostlaw04.ValidFirst', WHERE WHAT IT READS IS OF BULK AT MOST 1048576: true; the input reads as it did. -/
def validFirstUptoRow : OpenClaim := { program := "ytclhgmopphhalaagreatdoor", sum := "7e06b699cb041e33dae11e3c109691db01d49f586bdc2cd0c4b88c70a19951a6", func := "fencepost/fencepostlaw04.ValidFirst", spec := "validFirst", inPlace := ["internal/reflectlite.ValueOf", "(internal/reflectlite.Value).Type", "(internal/reflectlite.Value).IsNil", "internal/reflectlite.TypeOf", "(internal/reflectlite.Value).Elem", "(internal/reflectlite.Value).Set"], unfollowed := true, recurses := true, named := ["fencepost/word.regs", "errors.errorType"], apart := false, laid := [("errors.errorType", laid_errors_errorType), ("fencepost/word.regs", laid_fencepost_word_regs)], narrowed := true }
def ValidFirstUptoSaid : Prop := validFirstUptoRow.holds Tryz.pinned (OpenSpec.upto validFirstSpec)

/-- 'fencepostlaw04.ValidFences', WHERE WHAT IT READS IS OF BULK AT MOST 1048576: true; the input reads as it did. -/
def validFencesUptoRow : OpenClaim := { program := "ytclhgmopphhalaagreatdoor", sum := "7e06b699cb041e33dae11e3c109691db01d49f586bdc2cd0c4b88c70a19951a6", func := "fencepost/fencepostlaw04.ValidFences", spec := "validFences", inPlace := ["internal/reflectlite.ValueOf", "(internal/reflectlite.Value).Type", "(internal/reflectlite.Value).IsNil", "internal/reflectlite.TypeOf", "(internal/reflectlite.Value).Elem", "(internal/reflectlite.Value).Set"], unfollowed := true, recurses := true, named := ["fencepost/word.regs", "errors.errorType"], apart := false, laid := [("errors.errorType", laid_errors_errorType), ("fencepost/word.regs", laid_fencepost_word_regs)], narrowed := true }
def ValidFencesUptoSaid : Prop := validFencesUptoRow.holds Tryz.pinned (OpenSpec.upto validFencesSpec)

end Rows
end Go.Proofs.YtclhgmopphhalaaGreatDoor
