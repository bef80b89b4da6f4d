/-
  THE DOCUMENT'S ends: Of.
-/
import Derived.Test.YtodpajnpnobfmaaOtT
namespace Go.Proofs.Ytodpajnpnobfmaa
open Go.RowKit
set_option linter.unusedVariables false
set_option linter.unusedSimpArgs false
open OtM

def RoRet (l : List Ot) (w : World) (e : Ending) (w' : World) : Prop := ∃ r zs, e = .returned r ∧ OutsX w'.heap.size w' r zs ∧ os zs = ofO l ∧ Below w.heap.size w w'
set_option maxHeartbeats 4000000 in
set_option maxRecDepth 100000 in
theorem rof_any {B : Nat} {v : Value} {xs : List OV} (w : World) (hv : OutsX B w v xs) (hBB : B ≤ w.heap.size) (hl : xs.length ≤ 1000000) :
    Calls Try.prog 17 #[v] w (RoRet (os xs) w) := by
  obtain ⟨⟨A, c, rfl, h1, h2, h0, h3⟩, hov⟩ := hv
  unfold maxLen at h2
  have h3 := ov_at h3
  obtain ⟨n, hn⟩ : ∃ n, n = xs.length := ⟨_, rfl⟩
  have HN := Lib.hid hn
  rw [← hn] at h1 hl ⊢
  have HL := Lib.hid hl
  clear hn h0
  have HOV := Lib.hid hov
  clear hov
  go_enter Try.func17, Try.ntmps17
  go_wp2
  go_loopw [3, 4] (fun s i wr => ∃ (k : Nat) (acc : List OV) (AA : Option Addr) (na ca : Nat), k ≤ n ∧ i = .int .i64 k ∧ s = .slice AA na ca ∧ Hid (OutsX wr.heap.size wr (.slice AA na ca) acc) ∧ Hid (os acc = ofO (os (xs.take k))) ∧ Below w.heap.size w wr) (fun _ i _ => n - (intOf i).toNat)
  case atStart => exact ⟨0, [], none, 0, 0, Nat.zero_le _, rfl, rfl, Lib.hid ⟨Rw.nil _ _, fun x hx => (by cases hx)⟩, Lib.hid rfl, Below.refl _ _⟩
  case round =>
    obtain ⟨k, acc, AA, na, ca, hk, rfl, rfl, HA, HE, hB⟩ := hrel
    by_cases hlt : k < n
    · have hkx : k < xs.length := by have := HN.out; omega
      obtain ⟨b1, f1, rfl, hl1, hc1⟩ := h3 (by omega)
      obtain ⟨p0, p1⟩ := hc1 k hkx
      have d1 := ((hB.mono hBB).cell (p := ⟨b1, f1 + k * 2, none⟩) hl1).trans p0
      have d2 := ((hB.mono hBB).cell (p := ⟨b1, f1 + k * 2 + 1, none⟩) hl1).trans p1
      have HOK := ((HOV.out xs[k] (List.getElem_mem hkx)).below (hB.mono hBB)).more (Nat.le_trans hBB hB.size)
      have HT : ofO (os (xs.take (k + 1))) = putO (ofO (os (xs.take k))) xs[k].o := by
        rw [os_take hkx]; unfold ofO; rw [List.foldl_append]; rfl
      obtain ⟨x, hx⟩ : ∃ x, x = xs[k] := ⟨_, rfl⟩
      rw [← hx] at d1 d2 HOK HT
      clear hx hc1 h3 p0 p1 hkx
      obtain ⟨xm, xr, xo⟩ := x
      dsimp only at d1 d2 HT
      have HAL : acc.length ≤ 1000000 := by
        have h1 := congrArg List.length HE.out
        have h2 := ofO_len (os (xs.take k))
        have h4 := HN.out
        have h5 := HL.out
        simp at h1 h2
        omega
      have HC := Lib.hid (rput_any wr HA.out HOK.out (Nat.le_refl _) HAL)
      have HST := Lib.hid (show rput xo false (os acc) = ofO (os (xs.take (k + 1))) from by rw [HT, HE.out, rput_eq (ofO_srt _)])
      obtain ⟨A1, n1, c1, rfl⟩ := HOK.1.sl
      obtain ⟨A2, n2, c2, rfl⟩ := HOK.2.sl
      clear HOK HT HAL
      go_wp2_with fail
      refine HC.out.mono ?_
      rintro e W6 ⟨r, zs, nz, rfl, hz, hoz⟩
      obtain ⟨A8, c8, rfl⟩ := own_slice hz.own
      have HZ := Lib.hid (hz.outs (Nat.le_refl _) hz.below.size)
      have HZE := Lib.hid (show os zs = ofO (os (xs.take (k + 1))) from hoz.trans HST.out)
      have HB6 := Lib.hid (chain hB hz.below)
      clear hz hoz HST d1 d2
      go_wp2
      go_roundw
      case rel => exact ⟨k + 1, zs, A8, nz, c8, by omega, by go_num, rfl, HZ, HZE, HB6.out⟩
      case measure => simp [intOf]; omega
    · obtain rfl : n = k := by omega
      have HE2 := Lib.hid (show os acc = ofO (os xs) from by have := HE.out; rwa [List.take_of_length_le (by have := HN.out; omega)] at this)
      clear h3 HE
      go_wp2
      go_ret
      exact ⟨_, acc, rfl, HA.out, HE2.out, hB⟩
end Go.Proofs.Ytodpajnpnobfmaa
