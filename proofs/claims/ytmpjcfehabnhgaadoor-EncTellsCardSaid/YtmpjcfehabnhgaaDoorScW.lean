/-
  LAYER 10: Great, Wide; the document's Right, Jumps, At.
-/
import Derived.Test.YtmpjcfehabnhgaaDoorK02
import Derived.Test.YtmpjcfehabnhgaaDoorRCdC
import Derived.Deep.RegionHeld3
namespace Go.Proofs.YtmpjcfehabnhgaaDoor
open Go.RowKit
set_option linter.unusedVariables false
set_option linter.unusedSimpArgs false
open CodM (St Pg rightP)
open BfM (Wr plc)
open ScM

/-- A state's box. -/
abbrev StBox (w : World) (g : Nat) (vm vt : Value) : Prop := PgBox w g vm vt
/-- A state of which something is said, with rows of writes of at most n. -/
structure WideN (n : Nat) (s : Sta) : Prop where
  mem : s.mem.length ≤ 300
  ths : s.ths.length ≤ 9
  regs : ∀ t ∈ s.ths, t.regs.length ≤ 300 ∧ t.buf.length ≤ n
abbrev WideS (s : Sta) : Prop := WideN 50000 s
theorem WideN.more {n m : Nat} {s : Sta} (h : WideN n s) (hm : n ≤ m) : WideN m s := ⟨h.mem, h.ths, fun t ht => ⟨(h.regs t ht).1, Nat.le_trans (h.regs t ht).2 hm⟩⟩
def WdRet (s : Sta) (w : World) (e : Ending) (w' : World) : Prop := ∃ b, e = .returned (.bool b) ∧ (b = false → WideN 300 s) ∧ Below w.heap.size w w'
set_option maxHeartbeats 4000000 in
set_option maxRecDepth 100000 in
theorem wide_any {B : Nat} {v : Value} {s : Sta} (w : World) (hv : StaV B w v s) (hBB : B ≤ w.heap.size) :
    Calls Tryd.prog 10 #[v] w (WdRet s w) := by
  obtain ⟨vm, vt, rfl, hm, ht⟩ := hv
  obtain ⟨A0, c0, rfl, a1, a2, -⟩ := hm
  obtain ⟨A1, c1, rfl, h1, h2, -, h3⟩ := ht
  unfold maxLen at a2 h2
  have hB := below_al (Below.refl w.heap.size w) (.cells #[.slice A0 s.mem.length c0, .slice A1 s.ths.length c1] 25)
  have hbx := Lib.hid (PgBox.at (w := w) rfl (.slice A0 s.mem.length c0) (.slice A1 s.ths.length c1) 25)
  obtain ⟨t0, t1⟩ := hbx.out
  by_cases hi : 300 < s.mem.length
  · go_enter Tryd.func10, Tryd.ntmps10
    go_wp2
    go_ret
    exact ⟨true, rfl, fun h => (by cases h), hB⟩
  by_cases hth : 9 < s.ths.length
  · go_enter Tryd.func10, Tryd.ntmps10
    go_wp2
    go_ret
    exact ⟨true, rfl, fun h => (by cases h), hB⟩
  go_enter Tryd.func10, Tryd.ntmps10
  go_wp2
  go_loop [3] (fun i => (∃ k : Nat, k ≤ s.ths.length ∧ i = .int .i64 k ∧ ∀ j (hj : j < s.ths.length), j < k → s.ths[j].regs.length ≤ 300 ∧ s.ths[j].buf.length ≤ 300)) (fun i => s.ths.length - (intOf i).toNat)
  case atStart => exact ⟨0, Nat.zero_le _, rfl, fun j _ h => absurd h (Nat.not_lt_zero j)⟩
  case round =>
    obtain ⟨k, hk, rfl, hall⟩ := hrel
    have HA := Lib.hid hall
    clear hall
    by_cases hlt : k < s.ths.length
    · obtain ⟨b1, f1, rfl, hb1, hcl⟩ := h3 (by omega)
      obtain ⟨vr, vb, z0, z1, z2, z3, hR, hW⟩ := (hcl k hlt).below (hB.mono hBB) hb1
      have HY := Lib.hid (fun (h : s.ths[k].regs.length ≤ 300 ∧ s.ths[k].buf.length ≤ 300) (j : Nat) (hj : j < s.ths.length) (hjk : j < k + 1) => show s.ths[j].regs.length ≤ 300 ∧ s.ths[j].buf.length ≤ 300 by
        by_cases e : j = k
        · subst e; exact h
        · exact HA.out j hj (by omega))
      obtain ⟨x, hx⟩ : ∃ x, x = s.ths[k] := ⟨_, rfl⟩
      rw [← hx] at hR hW HY z0 z2
      obtain ⟨A3, c3, rfl, -⟩ := hR
      obtain ⟨A4, c4, rfl, -⟩ := hW
      clear hx hcl h3 HA z0 z2
      by_cases hs : 300 < x.regs.length
      · go_wp2
        go_ret
        exact ⟨true, rfl, fun h => (by cases h), hB⟩
      by_cases hs2 : 300 < x.buf.length
      · go_wp2
        go_ret
        exact ⟨true, rfl, fun h => (by cases h), hB⟩
      have HN := Lib.hid (HY.out ⟨by omega, by omega⟩)
      go_wp2
      go_round
      case rel => exact ⟨k + 1, by omega, by go_num, HN.out⟩
      case measure => simp [intOf]; omega
    · obtain rfl : s.ths.length = k := by omega
      have HC := Lib.hid (show WideN 300 s from ⟨by omega, by omega, fun t ht => by
        obtain ⟨j, hj, rfl⟩ := List.mem_iff_getElem.1 ht
        exact HA.out j hj hj⟩)
      clear h3
      go_wp2
      go_ret
      exact ⟨false, rfl, fun _ => HC.out, hB⟩
def GtRet (P : Pg) (w : World) (e : Ending) (w' : World) : Prop := ∃ b, e = .returned (.bool b) ∧ (b = false → SmallP P ∧ rightP P = true) ∧ Below w.heap.size w w'
end Go.Proofs.YtmpjcfehabnhgaaDoor
