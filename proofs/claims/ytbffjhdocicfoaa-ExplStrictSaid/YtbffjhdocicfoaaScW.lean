/-
  LAYER 10: Great, Wide; the document's Right, Jumps, At.
-/
import Derived.Test.YtbffjhdocicfoaaK04
import Derived.Test.YtbffjhdocicfoaaRCdC
import Derived.Deep.RegionHeld3
namespace Go.Proofs.Ytbffjhdocicfoaa
open Go.RowKit
set_option linter.unusedVariables false
set_option linter.unusedSimpArgs false
open CodM (St Pg rightP)
open BfM (Wr plc)
open ScM

/-- A state of which something is said, with rows of writes of at most n. -/
structure WideN (n : Nat) (s : Sta) : Prop where
  mem : s.mem.length ≤ 300
  ths : s.ths.length ≤ 9
  regs : ∀ t ∈ s.ths, t.regs.length ≤ 300 ∧ t.buf.length ≤ n
abbrev WideS (s : Sta) : Prop := WideN 50000 s
theorem WideN.more {n m : Nat} {s : Sta} (h : WideN n s) (hm : n ≤ m) : WideN m s := ⟨h.mem, h.ths, fun t ht => ⟨(h.regs t ht).1, Nat.le_trans (h.regs t ht).2 hm⟩⟩
def GtRet (P : Pg) (w : World) (e : Ending) (w' : World) : Prop := ∃ b, e = .returned (.bool b) ∧ (b = false → SmallP P ∧ rightP P = true) ∧ Below w.heap.size w w'
set_option maxHeartbeats 4000000 in
set_option maxRecDepth 100000 in
theorem cgreat_any {B : Nat} {v : Value} {P : Pg} (w : World) (hv : PgV B w v P) (hBB : B ≤ w.heap.size) :
    Calls Try.prog 9 #[v] w (GtRet P w) := by
  obtain ⟨pi, pt, rfl, hpm⟩ := hv
  have HPV := Lib.hid (fun W (hW : Below w.heap.size w W) => show PgV W.heap.size W (.agg #[pi, pt]) P from ⟨pi, pt, rfl, (hpm.below (hW.mono hBB)).more (Nat.le_trans hBB hW.size)⟩)
  have HGP := Lib.hid (fun W (hW : Below w.heap.size w W) => pgreat_any W (HPV.out W hW) (Nat.le_refl _))
  have HRt := Lib.hid (fun W (hW : Below w.heap.size w W) => rrightp_any W (HPV.out W hW) (Nat.le_refl _))
  obtain ⟨⟨P0, d0, rfl, -⟩, ⟨P1, d1, rfl, l1, l2, l3⟩⟩ := hpm
  have hB := below_al (Below.refl w.heap.size w) (.cells #[.slice P0 P.init.length d0, .slice P1 P.ths.length d1] 25)
  have HP := Lib.hid (PgBox.at (w := w) rfl (.slice P0 P.init.length d0) (.slice P1 P.ths.length d1) 25)
  obtain ⟨x0, x1⟩ := HP.out
  go_enter Try.func9, Try.ntmps9
  go_wp2_with fail
  refine (HGP.out _ hB).mono ?_
  rintro e w1 ⟨gb, rfl, hsx, hbb⟩
  replace hB := chain hB hbb
  replace HP := Lib.hid (HP.out.below hbb)
  clear x0 x1 hbb HGP
  obtain ⟨x0, x1⟩ := HP.out
  cases gb
  case true =>
    go_wp2
    go_ret
    exact ⟨true, rfl, fun h => (by cases h), hB⟩
  have HS := Lib.hid (hsx rfl)
  clear hsx
  go_wp2_with fail
  refine (HRt.out _ hB).mono ?_
  rintro e w2 ⟨rfl, hbb⟩
  replace hB := chain hB hbb
  clear x0 x1 hbb HRt HP
  cases hq : rightP P
  case false =>
    go_wp2
    go_ret
    exact ⟨true, rfl, fun h => (by cases h), hB⟩
  have HQ := Lib.hid hq
  clear hq
  go_wp2
  go_ret
  exact ⟨false, rfl, fun _ => ⟨HS.out, HQ.out⟩, hB⟩
end Go.Proofs.Ytbffjhdocicfoaa
