/-
  NARROWER THAN 'FOR EVERY INPUT', by the rows' own cells (each row's printed sentence says how): ShowTells: laid · ShowBack: laid · ShowOnce: laid · ShowApart: laid · ShowLines: laid · ShowLine: laid.
  DERIVED. THE GIVEN ROWS OF THIS SEAT. 6 by the template 'for every input the law returns true; each argument reads behind the call as it read before'; 0 by the template 'total and deterministic' (their statements: YtkkjodjachbifaaGreatDoorTotals.lean).
  GIVEN WITH THE SEED: the statements are not yours to turn. If you find one false, say at which input.
  Laid BY PROGRAM, IN A SANDBOX (cutbox-rows.mjs): the forced cells as the released guide's own fill.sh prints them over the translation ecd0cddf8e8a183a… (all of the seat's roots in one cut). By AI agents, Wed Nov 11 2026. No macro, syntax, notation, axiom, sorry.
-/
import Derived.Test.YtkkjodjachbifaaGreatDoorChecked
import GoSem.Claim
import GoSem.ClaimJoined
import GoSem.ClaimMapViews
import Derived.JoinedTies
import Derived.KernelRfl
namespace Go.Proofs.YtkkjodjachbifaaGreatDoor
/- THE CELL 'sum', in the pinned program and in every row, IS THE sha256 OF THE DUMP (.gsa) THAT YtkkjodjachbifaaGreatDoorProg.lean LOADS. Nothing in Lean hashes anything: it is a label: what it is worth is what the hold of that sum in a sandbox is worth. -/
noncomputable def Tryz.pinned : Pinned := { name := "ytkkjodjachbifaagreatdoor", sum := "ecd0cddf8e8a183ab1bd7410b0a871785ddd7ea9635e6b4596a4433ffad5821c", checked := Tryz.checked }
namespace Rows
def none {H : Type} : Left H := { results := [], args := [] }

/- WHAT THE LISTED PACKAGE-LEVEL VARIABLES READ AS WHEN THE CALL BEGINS. Each datum BY PROGRAM (the guide's laid-datum.mjs) off the statement by which the dump's own 'gosem.cut.vars' lays the variable. In a bare row this is a premise. The card (YtkkjodjachbifaaGreatDoorCards.lean) ties it to the program's text. -/
def laid_errors_errorType {H : Type} : DataW H := .iface "internal/reflectlite.rtype" (.agg [.ptr (.lit (.string [101, 114, 114, 111, 114]))])
def laid_fencepost_word_regs {H : Type} : DataW H := .agg [.lit (.string [101, 97, 120]), .lit (.string [101, 98, 120]), .lit (.string [101, 99, 120]), .lit (.string [101, 100, 120])]

/-- 'fencepostlaw06.ShowTells': WHATEVER THE INPUT: true; the input reads as it did. -/
def showTellsSpec : ChangeSpec := { name := "showTells", fn := fun _ => fun
  | [d1, d2] => { results := [.lit (.bool true)], args := [d1, d2] }
  | _ => none }
def showTellsRow : OpenClaim := { program := "ytkkjodjachbifaagreatdoor", sum := "ecd0cddf8e8a183ab1bd7410b0a871785ddd7ea9635e6b4596a4433ffad5821c", func := "fencepost/fencepostlaw06.ShowTells", spec := "showTells", inPlace := ["internal/reflectlite.ValueOf", "(internal/reflectlite.Value).Type", "(internal/reflectlite.Value).IsNil", "internal/reflectlite.TypeOf", "(internal/reflectlite.Value).Elem", "(internal/reflectlite.Value).Set", "internal/abi.NoEscape", "internal/bytealg.MakeNoZero"], unfollowed := true, recurses := true, named := ["fencepost/word.regs", "errors.errorType"], apart := false, laid := [("errors.errorType", laid_errors_errorType), ("fencepost/word.regs", laid_fencepost_word_regs)] }
def ShowTellsSaid : Prop := showTellsRow.holds Tryz.pinned (OpenSpec.ofChange showTellsSpec)

/-- ITS FALSE NEIGHBOUR: 'it returns false'. Refute it at one input. -/
def showTellsWrong : ChangeSpec := { name := "showTells", fn := fun _ => fun
  | [d1, d2] => { results := [.lit (.bool false)], args := [d1, d2] }
  | _ => none }
def ShowTellsWrongFalsely : Prop := showTellsRow.holds Tryz.pinned (OpenSpec.ofChange showTellsWrong)

/-- 'fencepostlaw06.ShowBack': WHATEVER THE INPUT: true; the input reads as it did. -/
def showBackSpec : ChangeSpec := { name := "showBack", fn := fun _ => fun
  | [d] => { results := [.lit (.bool true)], args := [d] }
  | _ => none }
def showBackRow : OpenClaim := { program := "ytkkjodjachbifaagreatdoor", sum := "ecd0cddf8e8a183ab1bd7410b0a871785ddd7ea9635e6b4596a4433ffad5821c", func := "fencepost/fencepostlaw06.ShowBack", spec := "showBack", inPlace := ["internal/reflectlite.ValueOf", "(internal/reflectlite.Value).Type", "(internal/reflectlite.Value).IsNil", "internal/reflectlite.TypeOf", "(internal/reflectlite.Value).Elem", "(internal/reflectlite.Value).Set", "internal/abi.NoEscape", "internal/bytealg.MakeNoZero"], unfollowed := true, recurses := true, named := ["fencepost/word.regs", "errors.errorType"], apart := false, laid := [("errors.errorType", laid_errors_errorType), ("fencepost/word.regs", laid_fencepost_word_regs)] }
def ShowBackSaid : Prop := showBackRow.holds Tryz.pinned (OpenSpec.ofChange showBackSpec)

/-- ITS FALSE NEIGHBOUR: 'it returns false'. Refute it at one input. -/
def showBackWrong : ChangeSpec := { name := "showBack", fn := fun _ => fun
  | [d] => { results := [.lit (.bool false)], args := [d] }
  | _ => none }
def ShowBackWrongFalsely : Prop := showBackRow.holds Tryz.pinned (OpenSpec.ofChange showBackWrong)

/-- 'fencepostlaw06.ShowOnce': WHATEVER THE INPUT: true; the input reads as it did. -/
def showOnceSpec : ChangeSpec := { name := "showOnce", fn := fun _ => fun
  | [d] => { results := [.lit (.bool true)], args := [d] }
  | _ => none }
def showOnceRow : OpenClaim := { program := "ytkkjodjachbifaagreatdoor", sum := "ecd0cddf8e8a183ab1bd7410b0a871785ddd7ea9635e6b4596a4433ffad5821c", func := "fencepost/fencepostlaw06.ShowOnce", spec := "showOnce", inPlace := ["internal/reflectlite.ValueOf", "(internal/reflectlite.Value).Type", "(internal/reflectlite.Value).IsNil", "internal/reflectlite.TypeOf", "(internal/reflectlite.Value).Elem", "(internal/reflectlite.Value).Set", "internal/abi.NoEscape", "internal/bytealg.MakeNoZero"], unfollowed := true, recurses := true, named := ["fencepost/word.regs", "errors.errorType"], apart := false, laid := [("errors.errorType", laid_errors_errorType), ("fencepost/word.regs", laid_fencepost_word_regs)] }
def ShowOnceSaid : Prop := showOnceRow.holds Tryz.pinned (OpenSpec.ofChange showOnceSpec)

/-- ITS FALSE NEIGHBOUR: 'it returns false'. Refute it at one input. -/
def showOnceWrong : ChangeSpec := { name := "showOnce", fn := fun _ => fun
  | [d] => { results := [.lit (.bool false)], args := [d] }
  | _ => none }
def ShowOnceWrongFalsely : Prop := showOnceRow.holds Tryz.pinned (OpenSpec.ofChange showOnceWrong)

/-- 'fencepostlaw06.ShowApart': WHATEVER THE INPUT: true; the input reads as it did. -/
def showApartSpec : ChangeSpec := { name := "showApart", fn := fun _ => fun
  | [d1, d2] => { results := [.lit (.bool true)], args := [d1, d2] }
  | _ => none }
def showApartRow : OpenClaim := { program := "ytkkjodjachbifaagreatdoor", sum := "ecd0cddf8e8a183ab1bd7410b0a871785ddd7ea9635e6b4596a4433ffad5821c", func := "fencepost/fencepostlaw06.ShowApart", spec := "showApart", inPlace := ["internal/reflectlite.ValueOf", "(internal/reflectlite.Value).Type", "(internal/reflectlite.Value).IsNil", "internal/reflectlite.TypeOf", "(internal/reflectlite.Value).Elem", "(internal/reflectlite.Value).Set", "internal/abi.NoEscape", "internal/bytealg.MakeNoZero"], unfollowed := true, recurses := true, named := ["fencepost/word.regs", "errors.errorType"], apart := false, laid := [("errors.errorType", laid_errors_errorType), ("fencepost/word.regs", laid_fencepost_word_regs)] }
def ShowApartSaid : Prop := showApartRow.holds Tryz.pinned (OpenSpec.ofChange showApartSpec)

/-- ITS FALSE NEIGHBOUR: 'it returns false'. Refute it at one input. -/
def showApartWrong : ChangeSpec := { name := "showApart", fn := fun _ => fun
  | [d1, d2] => { results := [.lit (.bool false)], args := [d1, d2] }
  | _ => none }
def ShowApartWrongFalsely : Prop := showApartRow.holds Tryz.pinned (OpenSpec.ofChange showApartWrong)

/-- 'fencepostlaw06.ShowLines': WHATEVER THE INPUT: true; the input reads as it did. -/
def showLinesSpec : ChangeSpec := { name := "showLines", fn := fun _ => fun
  | [d] => { results := [.lit (.bool true)], args := [d] }
  | _ => none }
def showLinesRow : OpenClaim := { program := "ytkkjodjachbifaagreatdoor", sum := "ecd0cddf8e8a183ab1bd7410b0a871785ddd7ea9635e6b4596a4433ffad5821c", func := "fencepost/fencepostlaw06.ShowLines", spec := "showLines", inPlace := ["internal/reflectlite.ValueOf", "(internal/reflectlite.Value).Type", "(internal/reflectlite.Value).IsNil", "internal/reflectlite.TypeOf", "(internal/reflectlite.Value).Elem", "(internal/reflectlite.Value).Set", "internal/abi.NoEscape", "internal/bytealg.MakeNoZero"], unfollowed := true, recurses := true, named := ["fencepost/word.regs", "errors.errorType"], apart := false, laid := [("errors.errorType", laid_errors_errorType), ("fencepost/word.regs", laid_fencepost_word_regs)] }
def ShowLinesSaid : Prop := showLinesRow.holds Tryz.pinned (OpenSpec.ofChange showLinesSpec)

/-- ITS FALSE NEIGHBOUR: 'it returns false'. Refute it at one input. -/
def showLinesWrong : ChangeSpec := { name := "showLines", fn := fun _ => fun
  | [d] => { results := [.lit (.bool false)], args := [d] }
  | _ => none }
def ShowLinesWrongFalsely : Prop := showLinesRow.holds Tryz.pinned (OpenSpec.ofChange showLinesWrong)

/-- 'fencepostlaw06.ShowLine': WHATEVER THE INPUT: true; the input reads as it did. -/
def showLineSpec : ChangeSpec := { name := "showLine", fn := fun _ => fun
  | [d1, d2] => { results := [.lit (.bool true)], args := [d1, d2] }
  | _ => none }
def showLineRow : OpenClaim := { program := "ytkkjodjachbifaagreatdoor", sum := "ecd0cddf8e8a183ab1bd7410b0a871785ddd7ea9635e6b4596a4433ffad5821c", func := "fencepost/fencepostlaw06.ShowLine", spec := "showLine", inPlace := ["internal/reflectlite.ValueOf", "(internal/reflectlite.Value).Type", "(internal/reflectlite.Value).IsNil", "internal/reflectlite.TypeOf", "(internal/reflectlite.Value).Elem", "(internal/reflectlite.Value).Set", "internal/abi.NoEscape", "internal/bytealg.MakeNoZero"], unfollowed := true, recurses := true, named := ["fencepost/word.regs", "errors.errorType"], apart := false, laid := [("errors.errorType", laid_errors_errorType), ("fencepost/word.regs", laid_fencepost_word_regs)] }
def ShowLineSaid : Prop := showLineRow.holds Tryz.pinned (OpenSpec.ofChange showLineSpec)

/-- ITS FALSE NEIGHBOUR: 'it returns false'. Refute it at one input. -/
def showLineWrong : ChangeSpec := { name := "showLine", fn := fun _ => fun
  | [d1, d2] => { results := [.lit (.bool false)], args := [d1, d2] }
  | _ => none }
def ShowLineWrongFalsely : Prop := showLineRow.holds Tryz.pinned (OpenSpec.ofChange showLineWrong)

/- THE SECOND FORM. 'bulk': how many values and letters a reading holds, each counted each time it is reached (what is shared counts as often as it is met; a slice's spare places count too). A statement '..UptoSaid' is the law's where the arguments, and the package variables that the reading takes, are together of bulk at most 1048576: NARROWER than '..Said'. Prove '..Said' where nothing that the law and all that it calls make is longer than what came in: it says more and counts as full. Else prove '..UptoSaid'. A law counts once. -/
mutual
def uptoBulk {H : Type} : DataW H → Nat
  | .lit (.string bytes) => bytes.length + 1
  | .lit _ => 1
  | .nil => 1
  | .ptr d => uptoBulk d + 1
  | .slice elems spare => uptoBulkAll elems + uptoBulkAll spare + 1
  | .agg parts => uptoBulkAll parts + 1
  | .iface _ d => uptoBulk d + 1
  | .map entries => uptoBulkEntries entries + 1
  | .held _ => 1
def uptoBulkAll {H : Type} : List (DataW H) → Nat
  | [] => 0
  | d :: r => uptoBulk d + uptoBulkAll r
def uptoBulkEntries {H : Type} : List (Lit × DataW H) → Nat
  | [] => 0
  | x :: r => uptoBulkEntry x + uptoBulkEntries r
def uptoBulkEntry {H : Type} : Lit × DataW H → Nat
  | (.string bytes, d) => bytes.length + uptoBulk d + 1
  | (_, d) => uptoBulk d + 1
 end
def uptoSmall : (H : Type) → List (DataW H) → Bool := fun _ ds => decide (uptoBulkAll ds ≤ 1048576)
def OpenSpec.upto (s : _root_.Go.ChangeSpec) : _root_.Go.OpenSpec := { _root_.Go.OpenSpec.ofChange s with cond := some uptoSmall }

/-- 'fencepostlaw06.ShowTells', WHERE WHAT IT READS IS OF BULK AT MOST 1048576: true; the input reads as it did. -/
def showTellsUptoRow : OpenClaim := { program := "ytkkjodjachbifaagreatdoor", sum := "ecd0cddf8e8a183ab1bd7410b0a871785ddd7ea9635e6b4596a4433ffad5821c", func := "fencepost/fencepostlaw06.ShowTells", spec := "showTells", inPlace := ["internal/reflectlite.ValueOf", "(internal/reflectlite.Value).Type", "(internal/reflectlite.Value).IsNil", "internal/reflectlite.TypeOf", "(internal/reflectlite.Value).Elem", "(internal/reflectlite.Value).Set", "internal/abi.NoEscape", "internal/bytealg.MakeNoZero"], unfollowed := true, recurses := true, named := ["fencepost/word.regs", "errors.errorType"], apart := false, laid := [("errors.errorType", laid_errors_errorType), ("fencepost/word.regs", laid_fencepost_word_regs)], narrowed := true }
def ShowTellsUptoSaid : Prop := showTellsUptoRow.holds Tryz.pinned (OpenSpec.upto showTellsSpec)

/-- 'fencepostlaw06.ShowBack', WHERE WHAT IT READS IS OF BULK AT MOST 1048576: true; the input reads as it did. -/
def showBackUptoRow : OpenClaim := { program := "ytkkjodjachbifaagreatdoor", sum := "ecd0cddf8e8a183ab1bd7410b0a871785ddd7ea9635e6b4596a4433ffad5821c", func := "fencepost/fencepostlaw06.ShowBack", spec := "showBack", inPlace := ["internal/reflectlite.ValueOf", "(internal/reflectlite.Value).Type", "(internal/reflectlite.Value).IsNil", "internal/reflectlite.TypeOf", "(internal/reflectlite.Value).Elem", "(internal/reflectlite.Value).Set", "internal/abi.NoEscape", "internal/bytealg.MakeNoZero"], unfollowed := true, recurses := true, named := ["fencepost/word.regs", "errors.errorType"], apart := false, laid := [("errors.errorType", laid_errors_errorType), ("fencepost/word.regs", laid_fencepost_word_regs)], narrowed := true }
def ShowBackUptoSaid : Prop := showBackUptoRow.holds Tryz.pinned (OpenSpec.upto showBackSpec)

/-- 'fencepostlaw06.ShowOnce', WHERE WHAT IT READS IS OF BULK AT MOST 1048576: true; the input reads as it did. -/
def showOnceUptoRow : OpenClaim := { program := "ytkkjodjachbifaagreatdoor", sum := "ecd0cddf8e8a183ab1bd7410b0a871785ddd7ea9635e6b4596a4433ffad5821c", func := "fencepost/fencepostlaw06.ShowOnce", spec := "showOnce", inPlace := ["internal/reflectlite.ValueOf", "(internal/reflectlite.Value).Type", "(internal/reflectlite.Value).IsNil", "internal/reflectlite.TypeOf", "(internal/reflectlite.Value).Elem", "(internal/reflectlite.Value).Set", "internal/abi.NoEscape", "internal/bytealg.MakeNoZero"], unfollowed := true, recurses := true, named := ["fencepost/word.regs", "errors.errorType"], apart := false, laid := [("errors.errorType", laid_errors_errorType), ("fencepost/word.regs", laid_fencepost_word_regs)], narrowed := true }
def ShowOnceUptoSaid : Prop := showOnceUptoRow.holds Tryz.pinned (OpenSpec.upto showOnceSpec)

/-- 'fencepostlaw06.ShowApart', WHERE WHAT IT READS IS OF BULK AT MOST 1048576: true; the input reads as it did. -/
def showApartUptoRow : OpenClaim := { program := "ytkkjodjachbifaagreatdoor", sum := "ecd0cddf8e8a183ab1bd7410b0a871785ddd7ea9635e6b4596a4433ffad5821c", func := "fencepost/fencepostlaw06.ShowApart", spec := "showApart", inPlace := ["internal/reflectlite.ValueOf", "(internal/reflectlite.Value).Type", "(internal/reflectlite.Value).IsNil", "internal/reflectlite.TypeOf", "(internal/reflectlite.Value).Elem", "(internal/reflectlite.Value).Set", "internal/abi.NoEscape", "internal/bytealg.MakeNoZero"], unfollowed := true, recurses := true, named := ["fencepost/word.regs", "errors.errorType"], apart := false, laid := [("errors.errorType", laid_errors_errorType), ("fencepost/word.regs", laid_fencepost_word_regs)], narrowed := true }
def ShowApartUptoSaid : Prop := showApartUptoRow.holds Tryz.pinned (OpenSpec.upto showApartSpec)

/-- 'fencepostlaw06.ShowLines', WHERE WHAT IT READS IS OF BULK AT MOST 1048576: true; the input reads as it did. -/
def showLinesUptoRow : OpenClaim := { program := "ytkkjodjachbifaagreatdoor", sum := "ecd0cddf8e8a183ab1bd7410b0a871785ddd7ea9635e6b4596a4433ffad5821c", func := "fencepost/fencepostlaw06.ShowLines", spec := "showLines", inPlace := ["internal/reflectlite.ValueOf", "(internal/reflectlite.Value).Type", "(internal/reflectlite.Value).IsNil", "internal/reflectlite.TypeOf", "(internal/reflectlite.Value).Elem", "(internal/reflectlite.Value).Set", "internal/abi.NoEscape", "internal/bytealg.MakeNoZero"], unfollowed := true, recurses := true, named := ["fencepost/word.regs", "errors.errorType"], apart := false, laid := [("errors.errorType", laid_errors_errorType), ("fencepost/word.regs", laid_fencepost_word_regs)], narrowed := true }
def ShowLinesUptoSaid : Prop := showLinesUptoRow.holds Tryz.pinned (OpenSpec.upto showLinesSpec)

/-- 'fencepostlaw06.ShowLine', WHERE WHAT IT READS IS OF BULK AT MOST 1048576: true; the input reads as it did. -/
def showLineUptoRow : OpenClaim := { program := "ytkkjodjachbifaagreatdoor", sum := "ecd0cddf8e8a183ab1bd7410b0a871785ddd7ea9635e6b4596a4433ffad5821c", func := "fencepost/fencepostlaw06.ShowLine", spec := "showLine", inPlace := ["internal/reflectlite.ValueOf", "(internal/reflectlite.Value).Type", "(internal/reflectlite.Value).IsNil", "internal/reflectlite.TypeOf", "(internal/reflectlite.Value).Elem", "(internal/reflectlite.Value).Set", "internal/abi.NoEscape", "internal/bytealg.MakeNoZero"], unfollowed := true, recurses := true, named := ["fencepost/word.regs", "errors.errorType"], apart := false, laid := [("errors.errorType", laid_errors_errorType), ("fencepost/word.regs", laid_fencepost_word_regs)], narrowed := true }
def ShowLineUptoSaid : Prop := showLineUptoRow.holds Tryz.pinned (OpenSpec.upto showLineSpec)

end Rows
end Go.Proofs.YtkkjodjachbifaaGreatDoor
