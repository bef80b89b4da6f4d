/-
  BufParts, as a walk: it returns true.
-/
import Derived.Test.YtnfdaajbfheocaaBfH
import Derived.Test.YtnfdaajbfheocaaBfD
import Derived.Test.YtnfdaajbfheocaaBfF
import Derived.Deep.RegionHeld3
import Derived.Deep.DeepCutAuto
namespace Go.Proofs.Ytnfdaajbfheocaa
open Go.RowKit
set_option linter.unusedVariables false
set_option linter.unusedSimpArgs false
open BfM

set_option maxHeartbeats 8000000 in
set_option maxRecDepth 100000 in
theorem bparts_law {vb vc vm : Value} {b c : List Wr} {m : List Int} (w : World) (hb : Wrs w.heap.size w vb b) (hc : Wrs w.heap.size w vc c) (hm : Ints w.heap.size w vm m) :
    Calls Try.prog 7 #[vb, vc, vm] w fun e w' => e = .returned (.bool true) ∧ Below w.heap.size w w' := by
  have HVc := Lib.hid (fun W (hW : Below w.heap.size w W) => show Wrs W.heap.size W vc c from (hc.below hW).more hW.size)
  obtain ⟨Ac, cc, rfl, hq1, hq2, hq0, hq3⟩ := hc
  have HHd := Lib.hid (fun W => bhead_any W)
  have HVb := Lib.hid (fun W (hW : Below w.heap.size w W) => show Wrs W.heap.size W vb b from (hb.below hW).more hW.size)
  have HVm := Lib.hid (fun W (hW : Below w.heap.size w W) => show Ints W.heap.size W vm m from (hm.below hW).more hW.size)
  obtain ⟨Ab, cb, rfl, hb1, hb2, hb0, hb3⟩ := hb
  obtain ⟨Am, cm, rfl, hm1, hm2, hm0, hm3⟩ := hm
  unfold maxLen at hb2 hm2
  have HGP := Lib.hid (fun W (hW : Below w.heap.size w W) => bgreat_any W (HVb.out W hW) (HVm.out W hW))
  unfold maxLen at hq2
  have HGC := Lib.hid (fun W (hW : Below w.heap.size w W) => bgreat_any W (HVc.out W hW) (Rw.nil (one := inC) (s := 1) W.heap.size W))
  obtain ⟨j0, hj0, hy0, hy1, hy2⟩ := info_parts info_wr
  have HS3 := Lib.hid (fun W (hW : Below w.heap.size w W) => src_at wrC_len hb0 hb3 hW)
  have HS4 := Lib.hid (fun W (hW : Below w.heap.size w W) => src_at wrC_len hq0 hq3 hW)
  have HB0 := Lib.hid hb0
  have HQ0 := Lib.hid hq0
  have HLb := Lib.hid (flat_len wrC_len b)
  have HLc := Lib.hid (flat_len wrC_len c)
  have HOb := Lib.hid (one_w b)
  have HOc := Lib.hid (one_w c)
  clear hb0 hb3 hq0 hq3 hm0 hm3
  go_enter Try.func7, Try.ntmps7
  go_wp2_with fail
  refine (HHd.out _).mono ?_
  rintro e w1 ⟨rfl, hB⟩
  clear HHd
  go_wp2_with fail
  refine (HGP.out _ hB).mono ?_
  rintro e w2 ⟨gb, rfl, hsx, hbb⟩
  replace hB := chain hB hbb
  clear hbb HGP
  cases gb
  case true =>
    go_wp2
    go_ret
    exact ⟨rfl, hB⟩
  obtain ⟨hl3, hm3'⟩ := hsx rfl
  clear hsx
  go_wp2_with fail
  refine (HGC.out _ hB).mono ?_
  rintro e w3 ⟨gc, rfl, hsx, hbb⟩
  replace hB := chain hB hbb
  clear hbb HGC
  cases gc
  case true =>
    go_wp2
    go_ret
    exact ⟨rfl, hB⟩
  obtain ⟨hl4, -⟩ := hsx rfl
  clear hsx
  have hl6 : b.length ≤ 1000000 := by omega
  have hl7 : c.length ≤ 1000000 := by omega
  have hm6 : m.length ≤ 1000000 := by omega
  have HAb := Lib.hid (fun W (hW : Below w.heap.size w W) => all_any W (HVb.out W hW) (HVm.out W hW) (Nat.le_refl _) hl6 hm6)
  have hbe := below_al (Below.refl w3.heap.size w3) (.cells #[] 24)
  have HOB := Lib.hid (show (w3.alloc (.cells #[] 24)).ownsRow w3.heap.size 24 2 (.slice (some ⟨w3.heap.size, 0, none⟩) 0 0) 0 [] from by
    have := World.ownsRow_lit (base := w3.heap.size) (e := 24) (size := 2) w3 #[] 0 (Nat.le_refl _) (by decide) rfl
    simpa using this)
  have HXC := Lib.hid (HS3.out _ (chain hB hbe))
  have HB3 := Lib.hid hB
  clear HS3 HVb
  go_wp2_with (at_builtin; refine Hid.out ?_)
  apply Lib.hid
  refine wpList_append_src _ rfl _ _ 22 rfl w3.heap.size 24 j0 (.agg #[.int .i64 0, .int .i64 0]) 2 16 Try.underlying22 hj0 hy0 hy1 hy2 rfl (by decide) _ 0 [] rfl HOB.out Ab b.length cb (b.flatMap wrC) rfl HLb.out HB0.out HXC.out HOb.out (by unfold maxLen; omega) (by omega) (by simp) ?_
  intro v4 w4 ho4 hg4
  simp only [Nat.zero_add, List.nil_append] at ho4
  have hb4 := below_append hbe HOB.out (Nat.le_refl _) (by simp) hg4
  obtain ⟨A4, c4, rfl⟩ := own_slice ho4
  have HO4 := Lib.hid ho4
  have HXD := Lib.hid (HS4.out _ (chain hB hb4))
  clear HOB HXC hg4 ho4 HS4 HB0 HOb hbe
  have hs4 := hb4.size
  go_wp2_with (at_builtin; refine Hid.out ?_)
  apply Lib.hid
  refine wpList_append_src _ rfl _ _ 22 rfl w3.heap.size 24 j0 (.agg #[.int .i64 0, .int .i64 0]) 2 16 Try.underlying22 hj0 hy0 hy1 hy2 rfl (by decide) _ b.length (b.flatMap wrC) rfl HO4.out Ac c.length cc (c.flatMap wrC) rfl HLc.out HQ0.out HXD.out HOc.out (by unfold maxLen; omega) (by omega) hs4 ?_
  intro v5 w5 ho5 hg5
  rw [← List.flatMap_append] at ho5
  have hb5 := below_append hb4 HO4.out (Nat.le_refl _) hs4 hg5
  obtain ⟨d, hd⟩ : ∃ d, d = b ++ c := ⟨_, rfl⟩
  have hdl : b.length + c.length = d.length := by rw [hd]; simp
  rw [hdl, ← hd] at ho5
  have HD := Lib.hid hd
  have hdl3 : d.length ≤ 1000000 := by omega
  have HVd := Lib.hid (fun W (hW : Below w5.heap.size w5 W) => show Wrs W.heap.size W v5 d from ((Rw.own ho5 (Nat.le_refl _)).below hW).more hW.size)
  have HB5 := Lib.hid (chain hB hb5)
  clear HO4 HXD hb4 hb5 hg5 hs4 hd hdl hB
  obtain ⟨A5, c5, rfl⟩ := own_slice ho5
  clear ho5
  have HDC := HVd.out _ (Below.refl _ _)
  obtain ⟨A6, c6, e6, hd1, hd2, -, hd3⟩ := HDC
  injection e6 with e6 _ e7
  subst e6; subst e7
  unfold maxLen at hd2
  have hd4 := wr_at (c := c5) hd3
  have hR : Below w5.heap.size w5 w5 := Below.refl _ _
  clear hd3
  go_wp2
  go_loopw [9] (fun i wr => ∃ k : Nat, k ≤ d.length ∧ i = .int .i64 k ∧ (∀ j (hj : j < d.length), j < k → plc m.length d[j].loc = true) ∧ Below w5.heap.size w5 wr) (fun i _ => d.length - (intOf i).toNat)
  case atStart => exact ⟨0, Nat.zero_le _, rfl, fun j _ h => absurd h (Nat.not_lt_zero j), Below.refl _ _⟩
  case round =>
    clear hR
    obtain ⟨k, hk, rfl, hok, hR⟩ := hrel
    have HOK := Lib.hid hok
    clear hok
    by_cases hlt : k < d.length
    · obtain ⟨b2, f2, rfl, hbb2, hc2⟩ := hd4 (by omega)
      obtain ⟨y0, y1⟩ := hc2 k hlt
      have z0 := (hR.cell (p := ⟨b2, f2 + k * 2, none⟩) hbb2).trans y0
      have HST := Lib.hid (fun (h1 : ¬ d[k].loc < 0) (h2 : ¬ (m.length : Int) ≤ d[k].loc) j (hj : j < d.length) (hjk : j < k + 1) => show plc m.length d[j].loc = true from by
        by_cases e : j = k
        · subst e; exact decide_eq_true ⟨by omega, by omega⟩
        · exact HOK.out j hj (by omega))
      obtain ⟨x, hx⟩ : ∃ x, x = d[k] := ⟨_, rfl⟩
      rw [← hx] at z0 HST
      clear hx y0 y1 hc2 hd4
      by_cases h1 : x.loc < 0
      · have hE := chain HB5.out hR
        go_wp2
        go_ret
        exact ⟨rfl, hE⟩
      by_cases h2 : (m.length : Int) ≤ x.loc
      · have hE := chain HB5.out hR
        go_wp2
        go_ret
        exact ⟨rfl, hE⟩
      have HN := Lib.hid (HST.out h1 h2)
      go_wp2
      go_roundw
      case rel => exact ⟨k + 1, by omega, by go_num, HN.out, hR⟩
      case measure => simp [intOf]; omega
    · obtain rfl : d.length = k := by omega
      have HO := Lib.hid (show ok m.length b from fun x hx => by
        have hx' : x ∈ d := by rw [HD.out]; exact List.mem_append_left _ hx
        obtain ⟨j, hj, rfl⟩ := List.mem_iff_getElem.1 hx'
        exact HOK.out j hj hj)
      have HEQ := Lib.hid (show all d m = all c (all b m) from by rw [HD.out, all_app b c m HO.out])
      have HAd := Lib.hid (fun W (hW : Below w5.heap.size w5 W) => all_any W (HVd.out W hW) (HVm.out W (chain HB5.out hW)) (Nat.le_refl _) hdl3 hm6)
      clear hd4 HOK HVd
      go_wp2_with fail
      refine (HAd.out _ hR).mono ?_
      rintro e w6 ⟨y6, rfl, ho6, hbb⟩
      have HY6 := Lib.hid (fun W (hW : Below w6.heap.size w6 W) => show Ints W.heap.size W y6 (all d m) from ((Rw.own ho6 (Nat.le_refl _)).below hW).more hW.size)
      obtain ⟨A6, c6, rfl⟩ := own_slice ho6
      have hR6 := chain HB5.out (chain hR hbb)
      clear hbb ho6 HAd hR
      go_wp2_with fail
      refine (HAb.out _ hR6).mono ?_
      rintro e w7 ⟨y7, rfl, ho7, hbb⟩
      have hT7 := hbb
      have HY7 := Lib.hid (Rw.own ho7 (Nat.le_refl _))
      obtain ⟨A7, c7, rfl⟩ := own_slice ho7
      have hR7 := chain hR6 hbb
      clear hbb ho7 HAb hR6
      have HAc := Lib.hid (all_any w7 (HVc.out _ hR7) HY7.out (Nat.le_refl _) hl7 (by rw [all_len]; exact hm6))
      clear HVc HVm HY7
      go_wp2_with fail
      refine HAc.out.mono ?_
      rintro e w8 ⟨y8, rfl, ho8, hbb⟩
      rw [← HEQ.out] at ho8
      have HSI := Lib.hid (fun y (h : Ints w8.heap.size w8 y (all d m)) => sameints_any w8 (HY6.out _ (chain hT7 hbb)) h (Nat.le_refl _))
      have HQ8 := Lib.hid (HSI.out _ (Rw.own ho8 (Nat.le_refl _)))
      have hAL := all_len c (all b m)
      rw [← HEQ.out] at hAL
      obtain ⟨A8, c8, rfl⟩ := own_slice ho8
      have hR8 := chain hR7 hbb
      clear hbb ho8 HAc hR7 HSI hT7 HY6 hAL
      go_wp2_with fail
      refine HQ8.out.mono ?_
      rintro e w9 ⟨rfl, hbb⟩
      have hE := chain hR8 hbb
      clear hbb HQ8 hR8
      go_wp2
      go_ret
      exact ⟨rfl, hE⟩
end Go.Proofs.Ytnfdaajbfheocaa
