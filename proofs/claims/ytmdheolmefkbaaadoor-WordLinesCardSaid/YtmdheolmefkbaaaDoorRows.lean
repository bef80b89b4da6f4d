/-
  NARROWER THAN 'FOR EVERY INPUT', by the rows' own cells (each row's printed sentence says how): WordTells: laid · WordLines: laid · WordWords: laid · WordParts: laid · WordRegs: laid · WordNames: laid.
  DERIVED. THE GIVEN ROWS OF THIS SEAT. 6 by the template 'for every input the law returns true; each argument reads behind the call as it read before'; 0 by the template 'total and deterministic' (their statements: YtmdheolmefkbaaaDoorTotals.lean).
  GIVEN WITH THE SEED: the statements are not yours to turn. If you find one false, say at which input.
  Laid BY PROGRAM, IN A SANDBOX (cutbox-rows.mjs): the forced cells as the released guide's own fill.sh prints them over the translation a47be51578398a76… (all of the seat's roots in one cut). By AI agents, Wed Nov 11 2026. No macro, syntax, notation, axiom, sorry.
-/
import Derived.Test.YtmdheolmefkbaaaDoorChecked
import GoSem.Claim
import GoSem.ClaimJoined
import GoSem.ClaimMapViews
import Derived.JoinedTies
import Derived.KernelRfl
namespace Go.Proofs.YtmdheolmefkbaaaDoor
/- THE CELL 'sum', in the pinned program and in every row, IS THE sha256 OF THE DUMP (.gsa) THAT YtmdheolmefkbaaaDoorProg.lean LOADS. Nothing in Lean hashes anything: it is a label: what it is worth is what the hold of that sum in a sandbox is worth. -/
noncomputable def Tryd.pinned : Pinned := { name := "ytmdheolmefkbaaadoor", sum := "a47be51578398a767f00cc2822c4e5a3626447c06afaa2a776d7443da67b86ad", checked := Tryd.checked }
namespace Rows
def none {H : Type} : Left H := { results := [], args := [] }

/- WHAT THE LISTED PACKAGE-LEVEL VARIABLES READ AS WHEN THE CALL BEGINS. Each datum BY PROGRAM (the guide's laid-datum.mjs) off the statement by which the dump's own 'gosem.cut.vars' lays the variable. In a bare row this is a premise. The card (YtmdheolmefkbaaaDoorCards.lean) ties it to the program's text. -/
def laid_fencepost_word_regs {H : Type} : DataW H := .agg [.lit (.string [101, 97, 120]), .lit (.string [101, 98, 120]), .lit (.string [101, 99, 120]), .lit (.string [101, 100, 120])]

/-- 'fencepostlaw02.WordTells': WHATEVER THE INPUT: true; the input reads as it did. -/
def wordTellsSpec : ChangeSpec := { name := "wordTells", fn := fun _ => fun
  | [d1, d2] => { results := [.lit (.bool true)], args := [d1, d2] }
  | _ => none }
def wordTellsRow : OpenClaim := { program := "ytmdheolmefkbaaadoor", sum := "a47be51578398a767f00cc2822c4e5a3626447c06afaa2a776d7443da67b86ad", func := "fencepost/fencepostlaw02.WordTells", spec := "wordTells", inPlace := ["internal/bytealg.IndexByteString", "internal/bytealg.IndexString"], unfollowed := true, recurses := true, named := ["internal/bytealg.MaxLen", "fencepost/word.regs"], apart := false, laid := [("fencepost/word.regs", laid_fencepost_word_regs)] }
def WordTellsSaid : Prop := wordTellsRow.holds Tryd.pinned (OpenSpec.ofChange wordTellsSpec)

/-- ITS FALSE NEIGHBOUR: 'it returns false'. Refute it at one input. -/
def wordTellsWrong : ChangeSpec := { name := "wordTells", fn := fun _ => fun
  | [d1, d2] => { results := [.lit (.bool false)], args := [d1, d2] }
  | _ => none }
def WordTellsWrongFalsely : Prop := wordTellsRow.holds Tryd.pinned (OpenSpec.ofChange wordTellsWrong)

/-- 'fencepostlaw02.WordLines': WHATEVER THE INPUT: true; the input reads as it did. -/
def wordLinesSpec : ChangeSpec := { name := "wordLines", fn := fun _ => fun
  | [d] => { results := [.lit (.bool true)], args := [d] }
  | _ => none }
def wordLinesRow : OpenClaim := { program := "ytmdheolmefkbaaadoor", sum := "a47be51578398a767f00cc2822c4e5a3626447c06afaa2a776d7443da67b86ad", func := "fencepost/fencepostlaw02.WordLines", spec := "wordLines", inPlace := ["internal/bytealg.IndexByteString", "internal/bytealg.IndexString"], unfollowed := true, recurses := true, named := ["internal/bytealg.MaxLen", "fencepost/word.regs"], apart := false, laid := [("fencepost/word.regs", laid_fencepost_word_regs)] }
def WordLinesSaid : Prop := wordLinesRow.holds Tryd.pinned (OpenSpec.ofChange wordLinesSpec)

/-- ITS FALSE NEIGHBOUR: 'it returns false'. Refute it at one input. -/
def wordLinesWrong : ChangeSpec := { name := "wordLines", fn := fun _ => fun
  | [d] => { results := [.lit (.bool false)], args := [d] }
  | _ => none }
def WordLinesWrongFalsely : Prop := wordLinesRow.holds Tryd.pinned (OpenSpec.ofChange wordLinesWrong)

/-- 'fencepostlaw02.WordWords': WHATEVER THE INPUT: true; the input reads as it did. -/
def wordWordsSpec : ChangeSpec := { name := "wordWords", fn := fun _ => fun
  | [d] => { results := [.lit (.bool true)], args := [d] }
  | _ => none }
def wordWordsRow : OpenClaim := { program := "ytmdheolmefkbaaadoor", sum := "a47be51578398a767f00cc2822c4e5a3626447c06afaa2a776d7443da67b86ad", func := "fencepost/fencepostlaw02.WordWords", spec := "wordWords", inPlace := ["internal/bytealg.IndexByteString", "internal/bytealg.IndexString"], unfollowed := true, recurses := true, named := ["internal/bytealg.MaxLen", "fencepost/word.regs"], apart := false, laid := [("fencepost/word.regs", laid_fencepost_word_regs)] }
def WordWordsSaid : Prop := wordWordsRow.holds Tryd.pinned (OpenSpec.ofChange wordWordsSpec)

/-- ITS FALSE NEIGHBOUR: 'it returns false'. Refute it at one input. -/
def wordWordsWrong : ChangeSpec := { name := "wordWords", fn := fun _ => fun
  | [d] => { results := [.lit (.bool false)], args := [d] }
  | _ => none }
def WordWordsWrongFalsely : Prop := wordWordsRow.holds Tryd.pinned (OpenSpec.ofChange wordWordsWrong)

/-- 'fencepostlaw02.WordParts': WHATEVER THE INPUT: true; the input reads as it did. -/
def wordPartsSpec : ChangeSpec := { name := "wordParts", fn := fun _ => fun
  | [d1, d2] => { results := [.lit (.bool true)], args := [d1, d2] }
  | _ => none }
def wordPartsRow : OpenClaim := { program := "ytmdheolmefkbaaadoor", sum := "a47be51578398a767f00cc2822c4e5a3626447c06afaa2a776d7443da67b86ad", func := "fencepost/fencepostlaw02.WordParts", spec := "wordParts", inPlace := ["internal/bytealg.IndexByteString", "internal/bytealg.IndexString"], unfollowed := true, recurses := true, named := ["internal/bytealg.MaxLen", "fencepost/word.regs"], apart := false, laid := [("fencepost/word.regs", laid_fencepost_word_regs)] }
def WordPartsSaid : Prop := wordPartsRow.holds Tryd.pinned (OpenSpec.ofChange wordPartsSpec)

/-- ITS FALSE NEIGHBOUR: 'it returns false'. Refute it at one input. -/
def wordPartsWrong : ChangeSpec := { name := "wordParts", fn := fun _ => fun
  | [d1, d2] => { results := [.lit (.bool false)], args := [d1, d2] }
  | _ => none }
def WordPartsWrongFalsely : Prop := wordPartsRow.holds Tryd.pinned (OpenSpec.ofChange wordPartsWrong)

/-- 'fencepostlaw02.WordRegs': WHATEVER THE INPUT: true; the input reads as it did. -/
def wordRegsSpec : ChangeSpec := { name := "wordRegs", fn := fun _ => fun
  | [d1, d2] => { results := [.lit (.bool true)], args := [d1, d2] }
  | _ => none }
def wordRegsRow : OpenClaim := { program := "ytmdheolmefkbaaadoor", sum := "a47be51578398a767f00cc2822c4e5a3626447c06afaa2a776d7443da67b86ad", func := "fencepost/fencepostlaw02.WordRegs", spec := "wordRegs", inPlace := ["internal/bytealg.IndexByteString", "internal/bytealg.IndexString"], unfollowed := true, recurses := true, named := ["internal/bytealg.MaxLen", "fencepost/word.regs"], apart := false, laid := [("fencepost/word.regs", laid_fencepost_word_regs)] }
def WordRegsSaid : Prop := wordRegsRow.holds Tryd.pinned (OpenSpec.ofChange wordRegsSpec)

/-- ITS FALSE NEIGHBOUR: 'it returns false'. Refute it at one input. -/
def wordRegsWrong : ChangeSpec := { name := "wordRegs", fn := fun _ => fun
  | [d1, d2] => { results := [.lit (.bool false)], args := [d1, d2] }
  | _ => none }
def WordRegsWrongFalsely : Prop := wordRegsRow.holds Tryd.pinned (OpenSpec.ofChange wordRegsWrong)

/-- 'fencepostlaw02.WordNames': WHATEVER THE INPUT: true; the input reads as it did. -/
def wordNamesSpec : ChangeSpec := { name := "wordNames", fn := fun _ => fun
  | [d1, d2] => { results := [.lit (.bool true)], args := [d1, d2] }
  | _ => none }
def wordNamesRow : OpenClaim := { program := "ytmdheolmefkbaaadoor", sum := "a47be51578398a767f00cc2822c4e5a3626447c06afaa2a776d7443da67b86ad", func := "fencepost/fencepostlaw02.WordNames", spec := "wordNames", inPlace := ["internal/bytealg.IndexByteString", "internal/bytealg.IndexString"], unfollowed := true, recurses := true, named := ["internal/bytealg.MaxLen", "fencepost/word.regs"], apart := false, laid := [("fencepost/word.regs", laid_fencepost_word_regs)] }
def WordNamesSaid : Prop := wordNamesRow.holds Tryd.pinned (OpenSpec.ofChange wordNamesSpec)

/-- ITS FALSE NEIGHBOUR: 'it returns false'. Refute it at one input. -/
def wordNamesWrong : ChangeSpec := { name := "wordNames", fn := fun _ => fun
  | [d1, d2] => { results := [.lit (.bool false)], args := [d1, d2] }
  | _ => none }
def WordNamesWrongFalsely : Prop := wordNamesRow.holds Tryd.pinned (OpenSpec.ofChange wordNamesWrong)

/- THE SECOND FORM. 'bulk': how many values and letters a reading holds, each counted each time it is reached (what is shared counts as often as it is met; a slice's spare places count too). A statement '..UptoSaid' is the law's where the arguments, and the package variables that the reading takes, are together of bulk at most 1048576: NARROWER than '..Said'. Prove '..Said' where nothing that the law and all that it calls make is longer than what came in: it says more and counts as full. Else prove '..UptoSaid'. A law counts once. -/
mutual
def uptoBulk {H : Type} : DataW H → Nat
  | .lit (.string bytes) => bytes.length + 1
  | .lit _ => 1
  | .nil => 1
  | .ptr d => uptoBulk d + 1
  | .slice elems spare => uptoBulkAll elems + uptoBulkAll spare + 1
  | .agg parts => uptoBulkAll parts + 1
  | .iface _ d => uptoBulk d + 1
  | .map entries => uptoBulkEntries entries + 1
  | .held _ => 1
def uptoBulkAll {H : Type} : List (DataW H) → Nat
  | [] => 0
  | d :: r => uptoBulk d + uptoBulkAll r
def uptoBulkEntries {H : Type} : List (Lit × DataW H) → Nat
  | [] => 0
  | x :: r => uptoBulkEntry x + uptoBulkEntries r
def uptoBulkEntry {H : Type} : Lit × DataW H → Nat
  | (.string bytes, d) => bytes.length + uptoBulk d + 1
  | (_, d) => uptoBulk d + 1
 end
def uptoSmall : (H : Type) → List (DataW H) → Bool := fun _ ds => decide (uptoBulkAll ds ≤ 1048576)
def OpenSpec.upto (s : _root_.Go.ChangeSpec) : _root_.Go.OpenSpec := { _root_.Go.OpenSpec.ofChange s with cond := some uptoSmall }

/-- 'fencepostlaw02.WordTells', WHERE WHAT IT READS IS OF BULK AT MOST 1048576: true; the input reads as it did. -/
def wordTellsUptoRow : OpenClaim := { program := "ytmdheolmefkbaaadoor", sum := "a47be51578398a767f00cc2822c4e5a3626447c06afaa2a776d7443da67b86ad", func := "fencepost/fencepostlaw02.WordTells", spec := "wordTells", inPlace := ["internal/bytealg.IndexByteString", "internal/bytealg.IndexString"], unfollowed := true, recurses := true, named := ["internal/bytealg.MaxLen", "fencepost/word.regs"], apart := false, laid := [("fencepost/word.regs", laid_fencepost_word_regs)], narrowed := true }
def WordTellsUptoSaid : Prop := wordTellsUptoRow.holds Tryd.pinned (OpenSpec.upto wordTellsSpec)

/-- 'fencepostlaw02.WordLines', WHERE WHAT IT READS IS OF BULK AT MOST 1048576: true; the input reads as it did. -/
def wordLinesUptoRow : OpenClaim := { program := "ytmdheolmefkbaaadoor", sum := "a47be51578398a767f00cc2822c4e5a3626447c06afaa2a776d7443da67b86ad", func := "fencepost/fencepostlaw02.WordLines", spec := "wordLines", inPlace := ["internal/bytealg.IndexByteString", "internal/bytealg.IndexString"], unfollowed := true, recurses := true, named := ["internal/bytealg.MaxLen", "fencepost/word.regs"], apart := false, laid := [("fencepost/word.regs", laid_fencepost_word_regs)], narrowed := true }
def WordLinesUptoSaid : Prop := wordLinesUptoRow.holds Tryd.pinned (OpenSpec.upto wordLinesSpec)

/-- 'fencepostlaw02.WordWords', WHERE WHAT IT READS IS OF BULK AT MOST 1048576: true; the input reads as it did. -/
def wordWordsUptoRow : OpenClaim := { program := "ytmdheolmefkbaaadoor", sum := "a47be51578398a767f00cc2822c4e5a3626447c06afaa2a776d7443da67b86ad", func := "fencepost/fencepostlaw02.WordWords", spec := "wordWords", inPlace := ["internal/bytealg.IndexByteString", "internal/bytealg.IndexString"], unfollowed := true, recurses := true, named := ["internal/bytealg.MaxLen", "fencepost/word.regs"], apart := false, laid := [("fencepost/word.regs", laid_fencepost_word_regs)], narrowed := true }
def WordWordsUptoSaid : Prop := wordWordsUptoRow.holds Tryd.pinned (OpenSpec.upto wordWordsSpec)

/-- 'fencepostlaw02.WordParts', WHERE WHAT IT READS IS OF BULK AT MOST 1048576: true; the input reads as it did. -/
def wordPartsUptoRow : OpenClaim := { program := "ytmdheolmefkbaaadoor", sum := "a47be51578398a767f00cc2822c4e5a3626447c06afaa2a776d7443da67b86ad", func := "fencepost/fencepostlaw02.WordParts", spec := "wordParts", inPlace := ["internal/bytealg.IndexByteString", "internal/bytealg.IndexString"], unfollowed := true, recurses := true, named := ["internal/bytealg.MaxLen", "fencepost/word.regs"], apart := false, laid := [("fencepost/word.regs", laid_fencepost_word_regs)], narrowed := true }
def WordPartsUptoSaid : Prop := wordPartsUptoRow.holds Tryd.pinned (OpenSpec.upto wordPartsSpec)

/-- 'fencepostlaw02.WordRegs', WHERE WHAT IT READS IS OF BULK AT MOST 1048576: true; the input reads as it did. -/
def wordRegsUptoRow : OpenClaim := { program := "ytmdheolmefkbaaadoor", sum := "a47be51578398a767f00cc2822c4e5a3626447c06afaa2a776d7443da67b86ad", func := "fencepost/fencepostlaw02.WordRegs", spec := "wordRegs", inPlace := ["internal/bytealg.IndexByteString", "internal/bytealg.IndexString"], unfollowed := true, recurses := true, named := ["internal/bytealg.MaxLen", "fencepost/word.regs"], apart := false, laid := [("fencepost/word.regs", laid_fencepost_word_regs)], narrowed := true }
def WordRegsUptoSaid : Prop := wordRegsUptoRow.holds Tryd.pinned (OpenSpec.upto wordRegsSpec)

/-- 'fencepostlaw02.WordNames', WHERE WHAT IT READS IS OF BULK AT MOST 1048576: true; the input reads as it did. -/
def wordNamesUptoRow : OpenClaim := { program := "ytmdheolmefkbaaadoor", sum := "a47be51578398a767f00cc2822c4e5a3626447c06afaa2a776d7443da67b86ad", func := "fencepost/fencepostlaw02.WordNames", spec := "wordNames", inPlace := ["internal/bytealg.IndexByteString", "internal/bytealg.IndexString"], unfollowed := true, recurses := true, named := ["internal/bytealg.MaxLen", "fencepost/word.regs"], apart := false, laid := [("fencepost/word.regs", laid_fencepost_word_regs)], narrowed := true }
def WordNamesUptoSaid : Prop := wordNamesUptoRow.holds Tryd.pinned (OpenSpec.upto wordNamesSpec)

end Rows
end Go.Proofs.YtmdheolmefkbaaaDoor
