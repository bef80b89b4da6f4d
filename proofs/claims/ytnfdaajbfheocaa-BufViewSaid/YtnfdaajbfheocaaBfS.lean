/-
  BufSteps, as a walk: it returns true.
-/
import Derived.Test.YtnfdaajbfheocaaBfH
import Derived.Test.YtnfdaajbfheocaaBfD
import Derived.Test.YtnfdaajbfheocaaBfF
import Derived.Deep.RegionHeld3
import Derived.Deep.DeepCutAuto
namespace Go.Proofs.Ytnfdaajbfheocaa
open Go.RowKit
set_option linter.unusedVariables false
set_option linter.unusedSimpArgs false
open BfM

/-- The rounds of BufSteps: what is on its way, and what there is, make in the end what the law's own do. -/
def StRel (b : List Wr) (m : List Int) (n₀ : Nat) (w : World) (vc vk i : Value) (wr : World) : Prop :=
  ∃ (k : Nat) (q : List Wr) (m' : List Int), k + q.length = b.length ∧ i = .int .i64 k ∧ Wrs wr.heap.size wr vc q ∧ Ints wr.heap.size wr vk m' ∧ m'.length = m.length ∧ all q m' = all b m ∧ Below n₀ w wr
theorem all_can {q : List Wr} {m : List Int} (h : can q m.length = false) : all q m = m := by
  cases q with
  | nil => rfl
  | cons x r => rw [all, if_neg (by rw [show plc m.length x.loc = can (x :: r) m.length from rfl, h]; exact Bool.false_ne_true)]
theorem all_step {x : Wr} {r : List Wr} {m : List Int} (h : can (x :: r) m.length = true) : all (x :: r) m = all r (arr m x) := by
  rw [all, if_pos (show plc m.length x.loc = true from h)]
set_option maxHeartbeats 8000000 in
set_option maxRecDepth 100000 in
theorem bsteps_law {vb vm : Value} {b : List Wr} {m : List Int} (w : World) (hb : Wrs w.heap.size w vb b) (hm : Ints w.heap.size w vm m) :
    Calls Try.prog 6 #[vb, vm] w fun e w' => e = .returned (.bool true) ∧ Below w.heap.size w w' := by
  have HHd := Lib.hid (fun W => bhead_any W)
  have HVb := Lib.hid (fun W (hW : Below w.heap.size w W) => show Wrs W.heap.size W vb b from (hb.below hW).more hW.size)
  have HVm := Lib.hid (fun W (hW : Below w.heap.size w W) => show Ints W.heap.size W vm m from (hm.below hW).more hW.size)
  obtain ⟨Ab, cb, rfl, hb1, hb2, hb0, hb3⟩ := hb
  obtain ⟨Am, cm, rfl, hm1, hm2, hm0, hm3⟩ := hm
  unfold maxLen at hb2 hm2
  have HGP := Lib.hid (fun W (hW : Below w.heap.size w W) => bgreat_any W (HVb.out W hW) (HVm.out W hW))
  clear hb0 hb3 hm0 hm3
  go_enter Try.func6, Try.ntmps6
  go_wp2_with fail
  refine (HHd.out _).mono ?_
  rintro e w1 ⟨rfl, hB⟩
  clear HHd
  go_wp2_with fail
  refine (HGP.out _ hB).mono ?_
  rintro e w2 ⟨gb, rfl, hsx, hbb⟩
  replace hB := chain hB hbb
  clear hbb HGP
  cases gb
  case true =>
    go_wp2
    go_ret
    exact ⟨rfl, hB⟩
  obtain ⟨hl3, hm3'⟩ := hsx rfl
  clear hsx
  have hl6 : b.length ≤ 1000000 := by omega
  have hm6 : m.length ≤ 1000000 := by omega
  have HAb := Lib.hid (all_any w2 (HVb.out w2 hB) (HVm.out w2 hB) (Nat.le_refl _) hl6 hm6)
  go_wp2_with fail
  refine HAb.out.mono ?_
  rintro e w3 ⟨y3, rfl, ho3, hbb⟩
  have HY3 := Lib.hid (fun W (hW : Below w3.heap.size w3 W) => show Ints W.heap.size W y3 (all b m) from ((Rw.own ho3 (Nat.le_refl _)).below hW).more hW.size)
  obtain ⟨A3, c3, rfl⟩ := own_slice ho3
  have HB3 := Lib.hid (chain hB hbb)
  have HS0 := Lib.hid (And.intro (HVb.out _ HB3.out) (HVm.out _ HB3.out))
  obtain ⟨al, hal⟩ : ∃ al, al = all b m := ⟨_, rfl⟩
  rw [← hal] at HY3 ⊢
  have HAL := Lib.hid hal
  clear hbb ho3 HAb hB HVb HVm hal
  go_wp2
  go_loopw [7, 8, 9] (fun vc vk i wr => StRel b m w3.heap.size w3 vc vk i wr) (fun _ _ i _ => b.length + 1 - (intOf i).toNat)
  case atStart => exact ⟨0, b, m, by omega, rfl, HS0.out.1, HS0.out.2, rfl, rfl, Below.refl _ _⟩
  case round =>
    obtain ⟨k, q, m', hkq, rfl, hq, hk, hml, hall, hR⟩ := hrel
    have HALL := Lib.hid hall
    have HQ := Lib.hid hq
    have HK := Lib.hid hk
    have hk0 : k ≤ b.length := by omega
    have hq3' : q.length ≤ 300 := by omega
    have hm3'' : m'.length ≤ 300 := by omega
    have HKQ := Lib.hid hkq
    have HML := Lib.hid hml
    clear hkq hml
    have HDr := Lib.hid (drain_any wr hq hk (Nat.le_refl _) (by omega) (by omega))
    obtain ⟨Aq, cq, rfl, hq1, hq2, hq0, -⟩ := hq
    obtain ⟨Ak, ck, rfl, hk1, hk2, hk0', -⟩ := hk
    unfold maxLen at hq2 hk2
    clear hall HS0 hk0'
    cases hcan : can q m'.length
    case false =>
      have HDR' := Lib.hid (show Calls Try.prog 15 _ wr (fun e w' => ∃ x y n1, e = .returned (.tuple #[x, y, .bool false]) ∧ OwnW n1 w' x q ∧ OwnI wr.heap.size w' y m' ∧ Below wr.heap.size wr w') from HDr.out.mono fun e w' ⟨x, y, n1, h1, h2, h3, h4, h5, h6⟩ => by
        rw [hcan] at h1
        have e1 : drB q m' = q := if_neg (by rw [hcan]; exact Bool.false_ne_true)
        have e2 : drM q m' = m' := by
          cases q with
          | nil => rfl
          | cons z r => exact if_neg (by rw [show plc m'.length z.loc = can (z :: r) m'.length from rfl, hcan]; exact Bool.false_ne_true)
        rw [e1] at h3; rw [e2] at h4
        exact ⟨x, y, n1, h1, h3, h4, h6⟩)
      have HEND := Lib.hid (show m' = al from by rw [HAL.out, ← HALL.out, all_can hcan])
      clear hcan HDr
      go_wp2_with fail
      refine HDR'.out.mono ?_
      rintro e w4 ⟨x4, y4, n4, rfl, ho4, hi4, hbb⟩
      have HX4 := Lib.hid (And.intro (Rw.own ho4 (Nat.le_refl _)) (Rw.own hi4 (Nat.le_refl _)))
      have HSM := Lib.hid (same_any w4 ((HQ.out.below hbb).more hbb.size) HX4.out.1 (Nat.le_refl _))
      have HSI := Lib.hid (fun W (hW : Below w4.heap.size w4 W) => sameints_any W ((HK.out.below (chain hbb hW)).more (chain hbb hW).size) ((HX4.out.2.below hW).more hW.size) (Nat.le_refl _))
      have HSE := Lib.hid (fun W (hW : Below w4.heap.size w4 W) => sameints_any W ((HK.out.below (chain hbb hW)).more (chain hbb hW).size) (by rw [HEND.out]; exact HY3.out W (chain (chain hR hbb) hW)) (Nat.le_refl _))
      obtain ⟨A4, c4, rfl⟩ := own_slice ho4
      obtain ⟨A5, c5, rfl⟩ := own_slice hi4
      have hR4 := chain HB3.out (chain hR hbb)
      clear HDR' ho4 hi4 hbb HX4 HQ HK
      go_wp2_with fail
      refine HSM.out.mono ?_
      rintro e w5 ⟨rfl, hbb⟩
      have hR5 := chain hR4 hbb
      have h45 := hbb
      clear hbb HSM hR4
      go_wp2_with fail
      refine (HSI.out _ h45).mono ?_
      rintro e w6 ⟨rfl, hbb⟩
      have hR6 := chain hR5 hbb
      have h46 := chain h45 hbb
      clear hbb HSI hR5 h45
      go_wp2_with fail
      refine (HSE.out _ h46).mono ?_
      rintro e w7 ⟨rfl, hbb⟩
      have hE := chain hR6 hbb
      clear hbb HSE hR6 h46
      go_wp2
      go_ret
      exact ⟨rfl, hE⟩
    case true =>
      cases q with
      | nil => cases hcan
      | cons x r =>
        have hrl : (x :: r).length = r.length + 1 := rfl
        have HKR := Lib.hid (show k + (r.length + 1) = b.length from HKQ.out)
        have hr3 : r.length + 1 ≤ 300 := hq3'
        clear HKQ hq3'
        have HDR' := Lib.hid (show Calls Try.prog 15 _ wr (fun e w' => ∃ x' y n1, e = .returned (.tuple #[x', y, .bool true]) ∧ OwnW n1 w' x' r ∧ (OwnI wr.heap.size w' y (arr m' x) ∧ ∃ Ay cy, y = .slice Ay m'.length cy) ∧ Below wr.heap.size wr w') from HDr.out.mono fun e w' ⟨x', y, n1, h1, h2, h3, h4, h5, h6⟩ => by
          rw [hcan] at h1
          have e1 : drB (x :: r) m' = r := if_pos hcan
          have e2 : drM (x :: r) m' = arr m' x := if_pos hcan
          rw [e1] at h3; rw [e2] at h4
          refine ⟨x', y, n1, h1, h3, ⟨h4, ?_⟩, h6⟩
          have := own_slice h4
          rw [arr_len] at this; exact this)
        have HSTEP := Lib.hid (all_step hcan)
        obtain ⟨b2, f2, hbf⟩ : ∃ b2 f2, Aq = some ⟨b2, f2, none⟩ := by
          obtain ⟨A', c', e, -, -, -, h⟩ := HQ.out
          injection e with e _ _
          obtain ⟨g, f, h, _⟩ := h (by simp)
          exact ⟨g, f, e.trans h⟩
        subst hbf
        have HT := Lib.hid (rw_tail (A := none) HQ.out)
        rw [hrl] at hq1 HDR'
        clear hcan HDr HQ HK hq0
        rw [hrl]
        clear hrl
        go_wp2_with fail
        refine HDR'.out.mono ?_
        rintro e w4 ⟨x4, y4, n4, rfl, ho4, ⟨hi4, A5, c5, rfl⟩, hbb⟩
        have HX4 := Lib.hid (And.intro (Rw.own ho4 (Nat.le_refl _)) (Rw.own hi4 (Nat.le_refl _)))
        have HEQ := Lib.hid (show all r (arr m' x) = al from by rw [HAL.out, ← HALL.out, HSTEP.out])
        have HAL4 := Lib.hid (all_any w4 HX4.out.1 HX4.out.2 (Nat.le_refl _) (by omega) (by rw [arr_len]; omega))
        obtain ⟨A4, c4, rfl⟩ := own_slice ho4
        have hR4 := chain hR hbb
        have HTB := Lib.hid (fun W (hW : Below w4.heap.size w4 W) => (HT.out.below (chain hbb hW)).more (chain hbb hW).size)
        have HSM := Lib.hid (fun v W (hW : Below w4.heap.size w4 W) (h : Wrs W.heap.size W v r) => same_any W ((HX4.out.1.below hW).more hW.size) h (Nat.le_refl _))
        clear HDR' ho4 hi4 hbb HT
        go_wp2_with fail
        refine HAL4.out.mono ?_
        rintro e w5 ⟨y5, rfl, ho5, hbb⟩
        have HSI := Lib.hid (fun y (h : Ints w5.heap.size w5 y al) => sameints_any w5 h (HY3.out _ (chain hR4 hbb)) (Nat.le_refl _))
        rw [HEQ.out] at ho5
        have HSI' := Lib.hid (HSI.out _ (Rw.own ho5 (Nat.le_refl _)))
        have hal5 : all r (arr m' x) = al := HEQ.out
        obtain ⟨A6, c6, rfl⟩ := own_slice ho5
        have h45 := hbb
        clear HAL4 ho5 hbb HSI hal5
        go_wp2_with fail
        refine HSI'.out.mono ?_
        rintro e w6 ⟨rfl, hbb⟩
        have h46 := chain h45 hbb
        clear hbb HSI' h45
        by_cases hc1 : cq = 1
        · have h0 : r = [] := List.eq_nil_of_length_eq_zero (by omega)
          subst h0
          have HSM' := Lib.hid (show Calls Try.prog 17 #[.slice A4 0 c4, .slice (some ⟨b2, f2, none⟩) 0 0] w6 (fun e w' => e = .returned (.bool true) ∧ Below w6.heap.size w6 w') from HSM.out (.slice (some ⟨b2, f2, none⟩) 0 0) w6 h46 ⟨_, 0, rfl, Nat.le_refl _, by decide, fun e => (by cases e), fun k => absurd k (by simp)⟩)
          have HX6 := Lib.hid (And.intro ((HX4.out.1.below h46).more h46.size) ((HX4.out.2.below h46).more h46.size))
          have hR6 := chain hR4 h46
          clear HSM HTB HX4 hR4 h46
          go_wp2_with fail
          refine HSM'.out.mono ?_
          rintro e w7 ⟨rfl, hbb⟩
          have hR7 := chain hR6 hbb
          have HX7 := Lib.hid (And.intro ((HX6.out.1.below hbb).more hbb.size) ((HX6.out.2.below hbb).more hbb.size))
          clear hbb HSM' hR6 HX6
          go_wp2_with fail
          go_roundw
          case rel => exact ⟨k + 1, [], arr m' x, by have := HKR.out; simp at this ⊢; omega, by go_num, HX7.out.1, HX7.out.2, by rw [arr_len]; exact HML.out, by rw [HEQ.out, HAL.out], hR7⟩
          case measure => have := HKR.out; simp [intOf]; omega
        · have hc1' : ¬ 1 = cq := fun e => hc1 e.symm
          have HSM' := Lib.hid (HSM.out _ w6 h46 (HTB.out _ h46))
          have HX6 := Lib.hid (And.intro ((HX4.out.1.below h46).more h46.size) ((HX4.out.2.below h46).more h46.size))
          have hR6 := chain hR4 h46
          clear HSM HTB HX4 hR4 h46
          go_wp2_with fail
          refine HSM'.out.mono ?_
          rintro e w7 ⟨rfl, hbb⟩
          have hR7 := chain hR6 hbb
          have HX7 := Lib.hid (And.intro ((HX6.out.1.below hbb).more hbb.size) ((HX6.out.2.below hbb).more hbb.size))
          clear hbb HSM' hR6 HX6
          go_wp2_with fail
          go_roundw
          case rel => exact ⟨k + 1, r, arr m' x, by have := HKR.out; omega, by go_num, HX7.out.1, HX7.out.2, by rw [arr_len]; exact HML.out, by rw [HEQ.out, HAL.out], hR7⟩
          case measure => have := HKR.out; simp [intOf]; omega
end Go.Proofs.Ytnfdaajbfheocaa
