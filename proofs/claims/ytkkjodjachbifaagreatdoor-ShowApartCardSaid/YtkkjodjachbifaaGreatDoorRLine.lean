/-
  THE DOCUMENT's line: what is wrong with a line of a thread.
-/
import Derived.Test.YtkkjodjachbifaaGreatDoorRLnq
import Derived.Test.YtkkjodjachbifaaGreatDoorRLnc
import Derived.Test.YtkkjodjachbifaaGreatDoorRLnd
import Derived.Test.YtkkjodjachbifaaGreatDoorRLne
import Derived.Test.YtkkjodjachbifaaGreatDoorRLng
import Derived.Test.YtkkjodjachbifaaGreatDoorRLni
namespace Go.Proofs.YtkkjodjachbifaaGreatDoor
open Go.RowKit
open VM
theorem rline_any {B : Nat} {v : Value} {ls : List OpsM.Ln} {k : Nat} (w : World) (h : Lns B w v ls) (hBB : B ≤ w.heap.size) (hk : k < ls.length) (hn : ls.length ≤ 100000) (hs : ∀ l ∈ ls, l.reg.length ≤ 100000 ∧ l.loc.length ≤ 100000 ∧ l.label.length ≤ 100000) :
    Calls Tryz.prog 53 #[v, .int .i64 k] w fun e w' => e = .returned (.int .i64 (lnC ls k)) ∧ Below w.heap.size w w' := by
  by_cases hR : OpsM.rightL ls[k] = false
  · exact rline_a w h hBB hk hn hs hR
  by_cases h11 : ls[k].op = 11
  · by_cases hl : 0 < lcnt (ls.take k) ls[k].label
    · exact rline_b w h hBB hk hn hs hR h11 hl
    · exact rline_c w h hBB hk hn hs hR h11 hl
  by_cases h6 : ls[k].op = 6
  · rcases Nat.eq_zero_or_pos k with hk0 | hp
    · exact rline_d w h hBB hk hn hs hR h6 hk0
    · cases hf : ((ls[k - 1]'(by omega)).op == 6)
      · exact rline_e w h hBB hk hn hs hR h6 (k - 1) (by omega) hf
      · exact rline_f w h hBB hk hn hs hR h6 (k - 1) (by omega) hf
  cases hj : jmpB ls[k]
  · exact rline_g w h hBB hk hn hs hR h11 h6 hj
  · by_cases hl : lcnt (ls.drop (k + 1)) ls[k].label = 0
    · exact rline_h w h hBB hk hn hs hR h11 h6 hj hl
    · exact rline_i w h hBB hk hn hs hR h11 h6 hj hl
end Go.Proofs.YtkkjodjachbifaaGreatDoor
