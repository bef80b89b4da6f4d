/-
  WHICH LINES ARE RIGHT: the kinds' own tests, and which kind a line is of, over any world that holds the registers.
-/
import Derived.Test.YtodpajnpnobfmaaName
import Derived.Test.YtodpajnpnobfmaaKit
import Derived.Test.YtodpajnpnobfmaaOpsM
import Derived.Test.YtodpajnpnobfmaaStrs
namespace Go.Proofs.Ytodpajnpnobfmaa
open Go.RowKit
set_option linter.unusedVariables false
set_option linter.unusedSimpArgs false
open WordM (L)

/-- A line as a value. -/
def lnv (op : Int) (r o b : ByteArray) (n : Int) : Value := .agg #[.int .i64 op, .string r, .string o, .string b, .int .i64 n]

theorem ret_bool {a b : Bool} (h : a = b) : Ending.returned (.bool a) = .returned (.bool b) := by rw [h]
theorem emp_of (s : ByteArray) : OpsM.emp s.data.toList = decide (s.toList = []) := by unfold OpsM.emp; rw [Lib.toList_data]

end Go.Proofs.Ytodpajnpnobfmaa
