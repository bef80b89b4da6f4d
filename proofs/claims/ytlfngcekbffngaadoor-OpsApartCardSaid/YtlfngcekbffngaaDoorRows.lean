/-
  NARROWER THAN 'FOR EVERY INPUT', by the rows' own cells (each row's printed sentence says how): OpsTells: laid · OpsBack: laid · OpsAtom: laid · OpsApart: laid · OpsZero: laid · OpsWords: laid.
  DERIVED. THE GIVEN ROWS OF THIS SEAT. 6 by the template 'for every input the law returns true; each argument reads behind the call as it read before'; 0 by the template 'total and deterministic' (their statements: YtlfngcekbffngaaDoorTotals.lean).
  GIVEN WITH THE SEED: the statements are not yours to turn. If you find one false, say at which input.
  Laid BY PROGRAM, IN A SANDBOX (cutbox-rows.mjs): the forced cells as the released guide's own fill.sh prints them over the translation 79b7628ba08aaa02… (all of the seat's roots in one cut). By AI agents, Wed Nov 11 2026. No macro, syntax, notation, axiom, sorry.
-/
import Derived.Test.YtlfngcekbffngaaDoorChecked
import GoSem.Claim
import GoSem.ClaimJoined
import GoSem.ClaimMapViews
import Derived.JoinedTies
import Derived.KernelRfl
namespace Go.Proofs.YtlfngcekbffngaaDoor
/- THE CELL 'sum', in the pinned program and in every row, IS THE sha256 OF THE DUMP (.gsa) THAT YtlfngcekbffngaaDoorProg.lean LOADS. Nothing in Lean hashes anything: it is a label: what it is worth is what the hold of that sum in a sandbox is worth. -/
noncomputable def Tryd.pinned : Pinned := { name := "ytlfngcekbffngaadoor", sum := "79b7628ba08aaa0225bd0ccdf1dbd14f340ff4689204496f8c52aba2922dd112", checked := Tryd.checked }
namespace Rows
def none {H : Type} : Left H := { results := [], args := [] }

/- WHAT THE LISTED PACKAGE-LEVEL VARIABLES READ AS WHEN THE CALL BEGINS. Each datum BY PROGRAM (the guide's laid-datum.mjs) off the statement by which the dump's own 'gosem.cut.vars' lays the variable. In a bare row this is a premise. The card (YtlfngcekbffngaaDoorCards.lean) ties it to the program's text. -/
def laid_fencepost_word_regs {H : Type} : DataW H := .agg [.lit (.string [101, 97, 120]), .lit (.string [101, 98, 120]), .lit (.string [101, 99, 120]), .lit (.string [101, 100, 120])]

/-- 'fencepostlaw03.OpsTells': WHATEVER THE INPUT: true; the input reads as it did. -/
def opsTellsSpec : ChangeSpec := { name := "opsTells", fn := fun _ => fun
  | [d1, d2, d3, d4] => { results := [.lit (.bool true)], args := [d1, d2, d3, d4] }
  | _ => none }
def opsTellsRow : OpenClaim := { program := "ytlfngcekbffngaadoor", sum := "79b7628ba08aaa0225bd0ccdf1dbd14f340ff4689204496f8c52aba2922dd112", func := "fencepost/fencepostlaw03.OpsTells", spec := "opsTells", inPlace := ["internal/bytealg.IndexByteString", "internal/bytealg.IndexString"], unfollowed := true, recurses := true, named := ["fencepost/word.regs", "internal/bytealg.MaxLen"], apart := false, laid := [("fencepost/word.regs", laid_fencepost_word_regs)] }
def OpsTellsSaid : Prop := opsTellsRow.holds Tryd.pinned (OpenSpec.ofChange opsTellsSpec)

/-- ITS FALSE NEIGHBOUR: 'it returns false'. Refute it at one input. -/
def opsTellsWrong : ChangeSpec := { name := "opsTells", fn := fun _ => fun
  | [d1, d2, d3, d4] => { results := [.lit (.bool false)], args := [d1, d2, d3, d4] }
  | _ => none }
def OpsTellsWrongFalsely : Prop := opsTellsRow.holds Tryd.pinned (OpenSpec.ofChange opsTellsWrong)

/-- 'fencepostlaw03.OpsBack': WHATEVER THE INPUT: true; the input reads as it did. -/
def opsBackSpec : ChangeSpec := { name := "opsBack", fn := fun _ => fun
  | [d1, d2] => { results := [.lit (.bool true)], args := [d1, d2] }
  | _ => none }
def opsBackRow : OpenClaim := { program := "ytlfngcekbffngaadoor", sum := "79b7628ba08aaa0225bd0ccdf1dbd14f340ff4689204496f8c52aba2922dd112", func := "fencepost/fencepostlaw03.OpsBack", spec := "opsBack", inPlace := ["internal/bytealg.IndexByteString", "internal/bytealg.IndexString"], unfollowed := true, recurses := true, named := ["fencepost/word.regs", "internal/bytealg.MaxLen"], apart := false, laid := [("fencepost/word.regs", laid_fencepost_word_regs)] }
def OpsBackSaid : Prop := opsBackRow.holds Tryd.pinned (OpenSpec.ofChange opsBackSpec)

/-- ITS FALSE NEIGHBOUR: 'it returns false'. Refute it at one input. -/
def opsBackWrong : ChangeSpec := { name := "opsBack", fn := fun _ => fun
  | [d1, d2] => { results := [.lit (.bool false)], args := [d1, d2] }
  | _ => none }
def OpsBackWrongFalsely : Prop := opsBackRow.holds Tryd.pinned (OpenSpec.ofChange opsBackWrong)

/-- 'fencepostlaw03.OpsAtom': WHATEVER THE INPUT: true; the input reads as it did. -/
def opsAtomSpec : ChangeSpec := { name := "opsAtom", fn := fun _ => fun
  | [d1, d2] => { results := [.lit (.bool true)], args := [d1, d2] }
  | _ => none }
def opsAtomRow : OpenClaim := { program := "ytlfngcekbffngaadoor", sum := "79b7628ba08aaa0225bd0ccdf1dbd14f340ff4689204496f8c52aba2922dd112", func := "fencepost/fencepostlaw03.OpsAtom", spec := "opsAtom", inPlace := ["internal/bytealg.IndexByteString", "internal/bytealg.IndexString"], unfollowed := true, recurses := true, named := ["fencepost/word.regs", "internal/bytealg.MaxLen"], apart := false, laid := [("fencepost/word.regs", laid_fencepost_word_regs)] }
def OpsAtomSaid : Prop := opsAtomRow.holds Tryd.pinned (OpenSpec.ofChange opsAtomSpec)

/-- ITS FALSE NEIGHBOUR: 'it returns false'. Refute it at one input. -/
def opsAtomWrong : ChangeSpec := { name := "opsAtom", fn := fun _ => fun
  | [d1, d2] => { results := [.lit (.bool false)], args := [d1, d2] }
  | _ => none }
def OpsAtomWrongFalsely : Prop := opsAtomRow.holds Tryd.pinned (OpenSpec.ofChange opsAtomWrong)

/-- 'fencepostlaw03.OpsApart': WHATEVER THE INPUT: true; the input reads as it did. -/
def opsApartSpec : ChangeSpec := { name := "opsApart", fn := fun _ => fun
  | [d1, d2, d3, d4] => { results := [.lit (.bool true)], args := [d1, d2, d3, d4] }
  | _ => none }
def opsApartRow : OpenClaim := { program := "ytlfngcekbffngaadoor", sum := "79b7628ba08aaa0225bd0ccdf1dbd14f340ff4689204496f8c52aba2922dd112", func := "fencepost/fencepostlaw03.OpsApart", spec := "opsApart", inPlace := ["internal/bytealg.IndexByteString", "internal/bytealg.IndexString"], unfollowed := true, recurses := true, named := ["fencepost/word.regs", "internal/bytealg.MaxLen"], apart := false, laid := [("fencepost/word.regs", laid_fencepost_word_regs)] }
def OpsApartSaid : Prop := opsApartRow.holds Tryd.pinned (OpenSpec.ofChange opsApartSpec)

/-- ITS FALSE NEIGHBOUR: 'it returns false'. Refute it at one input. -/
def opsApartWrong : ChangeSpec := { name := "opsApart", fn := fun _ => fun
  | [d1, d2, d3, d4] => { results := [.lit (.bool false)], args := [d1, d2, d3, d4] }
  | _ => none }
def OpsApartWrongFalsely : Prop := opsApartRow.holds Tryd.pinned (OpenSpec.ofChange opsApartWrong)

/-- 'fencepostlaw03.OpsZero': WHATEVER THE INPUT: true; the input reads as it did. -/
def opsZeroSpec : ChangeSpec := { name := "opsZero", fn := fun _ => fun
  | [d1, d2, d3, d4] => { results := [.lit (.bool true)], args := [d1, d2, d3, d4] }
  | _ => none }
def opsZeroRow : OpenClaim := { program := "ytlfngcekbffngaadoor", sum := "79b7628ba08aaa0225bd0ccdf1dbd14f340ff4689204496f8c52aba2922dd112", func := "fencepost/fencepostlaw03.OpsZero", spec := "opsZero", inPlace := ["internal/bytealg.IndexByteString", "internal/bytealg.IndexString"], unfollowed := true, recurses := true, named := ["fencepost/word.regs", "internal/bytealg.MaxLen"], apart := false, laid := [("fencepost/word.regs", laid_fencepost_word_regs)] }
def OpsZeroSaid : Prop := opsZeroRow.holds Tryd.pinned (OpenSpec.ofChange opsZeroSpec)

/-- ITS FALSE NEIGHBOUR: 'it returns false'. Refute it at one input. -/
def opsZeroWrong : ChangeSpec := { name := "opsZero", fn := fun _ => fun
  | [d1, d2, d3, d4] => { results := [.lit (.bool false)], args := [d1, d2, d3, d4] }
  | _ => none }
def OpsZeroWrongFalsely : Prop := opsZeroRow.holds Tryd.pinned (OpenSpec.ofChange opsZeroWrong)

/-- 'fencepostlaw03.OpsWords': WHATEVER THE INPUT: true; the input reads as it did. -/
def opsWordsSpec : ChangeSpec := { name := "opsWords", fn := fun _ => fun
  | [d1, d2] => { results := [.lit (.bool true)], args := [d1, d2] }
  | _ => none }
def opsWordsRow : OpenClaim := { program := "ytlfngcekbffngaadoor", sum := "79b7628ba08aaa0225bd0ccdf1dbd14f340ff4689204496f8c52aba2922dd112", func := "fencepost/fencepostlaw03.OpsWords", spec := "opsWords", inPlace := ["internal/bytealg.IndexByteString", "internal/bytealg.IndexString"], unfollowed := true, recurses := true, named := ["fencepost/word.regs", "internal/bytealg.MaxLen"], apart := false, laid := [("fencepost/word.regs", laid_fencepost_word_regs)] }
def OpsWordsSaid : Prop := opsWordsRow.holds Tryd.pinned (OpenSpec.ofChange opsWordsSpec)

/-- ITS FALSE NEIGHBOUR: 'it returns false'. Refute it at one input. -/
def opsWordsWrong : ChangeSpec := { name := "opsWords", fn := fun _ => fun
  | [d1, d2] => { results := [.lit (.bool false)], args := [d1, d2] }
  | _ => none }
def OpsWordsWrongFalsely : Prop := opsWordsRow.holds Tryd.pinned (OpenSpec.ofChange opsWordsWrong)

/- THE SECOND FORM. 'bulk': how many values and letters a reading holds, each counted each time it is reached (what is shared counts as often as it is met; a slice's spare places count too). A statement '..UptoSaid' is the law's where the arguments, and the package variables that the reading takes, are together of bulk at most 1048576: NARROWER than '..Said'. Prove '..Said' where nothing that the law and all that it calls make is longer than what came in: it says more and counts as full. Else prove '..UptoSaid'. A law counts once. -/
mutual
def uptoBulk {H : Type} : DataW H → Nat
  | .lit (.string bytes) => bytes.length + 1
  | .lit _ => 1
  | .nil => 1
  | .ptr d => uptoBulk d + 1
  | .slice elems spare => uptoBulkAll elems + uptoBulkAll spare + 1
  | .agg parts => uptoBulkAll parts + 1
  | .iface _ d => uptoBulk d + 1
  | .map entries => uptoBulkEntries entries + 1
  | .held _ => 1
def uptoBulkAll {H : Type} : List (DataW H) → Nat
  | [] => 0
  | d :: r => uptoBulk d + uptoBulkAll r
def uptoBulkEntries {H : Type} : List (Lit × DataW H) → Nat
  | [] => 0
  | x :: r => uptoBulkEntry x + uptoBulkEntries r
def uptoBulkEntry {H : Type} : Lit × DataW H → Nat
  | (.string bytes, d) => bytes.length + uptoBulk d + 1
  | (_, d) => uptoBulk d + 1
 end
def uptoSmall : (H : Type) → List (DataW H) → Bool := fun _ ds => decide (uptoBulkAll ds ≤ 1048576)
def OpenSpec.upto (s : _root_.Go.ChangeSpec) : _root_.Go.OpenSpec := { _root_.Go.OpenSpec.ofChange s with cond := some uptoSmall }

/-- 'fencepostlaw03.OpsTells', WHERE WHAT IT READS IS OF BULK AT MOST 1048576: true; the input reads as it did. -/
def opsTellsUptoRow : OpenClaim := { program := "ytlfngcekbffngaadoor", sum := "79b7628ba08aaa0225bd0ccdf1dbd14f340ff4689204496f8c52aba2922dd112", func := "fencepost/fencepostlaw03.OpsTells", spec := "opsTells", inPlace := ["internal/bytealg.IndexByteString", "internal/bytealg.IndexString"], unfollowed := true, recurses := true, named := ["fencepost/word.regs", "internal/bytealg.MaxLen"], apart := false, laid := [("fencepost/word.regs", laid_fencepost_word_regs)], narrowed := true }
def OpsTellsUptoSaid : Prop := opsTellsUptoRow.holds Tryd.pinned (OpenSpec.upto opsTellsSpec)

/-- 'fencepostlaw03.OpsBack', WHERE WHAT IT READS IS OF BULK AT MOST 1048576: true; the input reads as it did. -/
def opsBackUptoRow : OpenClaim := { program := "ytlfngcekbffngaadoor", sum := "79b7628ba08aaa0225bd0ccdf1dbd14f340ff4689204496f8c52aba2922dd112", func := "fencepost/fencepostlaw03.OpsBack", spec := "opsBack", inPlace := ["internal/bytealg.IndexByteString", "internal/bytealg.IndexString"], unfollowed := true, recurses := true, named := ["fencepost/word.regs", "internal/bytealg.MaxLen"], apart := false, laid := [("fencepost/word.regs", laid_fencepost_word_regs)], narrowed := true }
def OpsBackUptoSaid : Prop := opsBackUptoRow.holds Tryd.pinned (OpenSpec.upto opsBackSpec)

/-- 'fencepostlaw03.OpsAtom', WHERE WHAT IT READS IS OF BULK AT MOST 1048576: true; the input reads as it did. -/
def opsAtomUptoRow : OpenClaim := { program := "ytlfngcekbffngaadoor", sum := "79b7628ba08aaa0225bd0ccdf1dbd14f340ff4689204496f8c52aba2922dd112", func := "fencepost/fencepostlaw03.OpsAtom", spec := "opsAtom", inPlace := ["internal/bytealg.IndexByteString", "internal/bytealg.IndexString"], unfollowed := true, recurses := true, named := ["fencepost/word.regs", "internal/bytealg.MaxLen"], apart := false, laid := [("fencepost/word.regs", laid_fencepost_word_regs)], narrowed := true }
def OpsAtomUptoSaid : Prop := opsAtomUptoRow.holds Tryd.pinned (OpenSpec.upto opsAtomSpec)

/-- 'fencepostlaw03.OpsApart', WHERE WHAT IT READS IS OF BULK AT MOST 1048576: true; the input reads as it did. -/
def opsApartUptoRow : OpenClaim := { program := "ytlfngcekbffngaadoor", sum := "79b7628ba08aaa0225bd0ccdf1dbd14f340ff4689204496f8c52aba2922dd112", func := "fencepost/fencepostlaw03.OpsApart", spec := "opsApart", inPlace := ["internal/bytealg.IndexByteString", "internal/bytealg.IndexString"], unfollowed := true, recurses := true, named := ["fencepost/word.regs", "internal/bytealg.MaxLen"], apart := false, laid := [("fencepost/word.regs", laid_fencepost_word_regs)], narrowed := true }
def OpsApartUptoSaid : Prop := opsApartUptoRow.holds Tryd.pinned (OpenSpec.upto opsApartSpec)

/-- 'fencepostlaw03.OpsZero', WHERE WHAT IT READS IS OF BULK AT MOST 1048576: true; the input reads as it did. -/
def opsZeroUptoRow : OpenClaim := { program := "ytlfngcekbffngaadoor", sum := "79b7628ba08aaa0225bd0ccdf1dbd14f340ff4689204496f8c52aba2922dd112", func := "fencepost/fencepostlaw03.OpsZero", spec := "opsZero", inPlace := ["internal/bytealg.IndexByteString", "internal/bytealg.IndexString"], unfollowed := true, recurses := true, named := ["fencepost/word.regs", "internal/bytealg.MaxLen"], apart := false, laid := [("fencepost/word.regs", laid_fencepost_word_regs)], narrowed := true }
def OpsZeroUptoSaid : Prop := opsZeroUptoRow.holds Tryd.pinned (OpenSpec.upto opsZeroSpec)

/-- 'fencepostlaw03.OpsWords', WHERE WHAT IT READS IS OF BULK AT MOST 1048576: true; the input reads as it did. -/
def opsWordsUptoRow : OpenClaim := { program := "ytlfngcekbffngaadoor", sum := "79b7628ba08aaa0225bd0ccdf1dbd14f340ff4689204496f8c52aba2922dd112", func := "fencepost/fencepostlaw03.OpsWords", spec := "opsWords", inPlace := ["internal/bytealg.IndexByteString", "internal/bytealg.IndexString"], unfollowed := true, recurses := true, named := ["fencepost/word.regs", "internal/bytealg.MaxLen"], apart := false, laid := [("fencepost/word.regs", laid_fencepost_word_regs)], narrowed := true }
def OpsWordsUptoSaid : Prop := opsWordsUptoRow.holds Tryd.pinned (OpenSpec.upto opsWordsSpec)

end Rows
end Go.Proofs.YtlfngcekbffngaaDoor
