/-
  BufGiven, as a walk: it returns true.
-/
import Derived.Test.YtnfdaajbfheocaaBfH
import Derived.Test.YtnfdaajbfheocaaBfD
import Derived.Test.YtnfdaajbfheocaaBfF
import Derived.Deep.RegionHeld3
import Derived.Deep.DeepCutAuto
namespace Go.Proofs.Ytnfdaajbfheocaa
open Go.RowKit
set_option linter.unusedVariables false
set_option linter.unusedSimpArgs false
open BfM

theorem own_some {w : World} {base e size n g c : Nat} {xs : List Value} (h : w.ownsRow base e size (.slice (some ⟨g, 0, none⟩) n c) n xs) {j : Nat} (hj : j < n * size) : ∃ v, w.cell? ⟨g, j, none⟩ = some v := by
  rw [h.cellAt j hj]
  exact ⟨_, List.getElem?_eq_getElem (by rw [h.1]; exact hj)⟩
theorem drB_len (b : List Wr) (m : List Int) : (drB b m).length ≤ b.length := by
  unfold drB; split
  · simp
  · exact Nat.le_refl _
theorem drM_len (b : List Wr) (m : List Int) : (drM b m).length = m.length := by
  cases b with
  | nil => rfl
  | cons x r => unfold drM; simp only []; split <;> simp [arr_len]
set_option maxHeartbeats 8000000 in
set_option maxRecDepth 100000 in
theorem bgiven_law {vb vm : Value} {b : List Wr} {m : List Int} (x : Wr) (w : World) (hb : Wrs w.heap.size w vb b) (hm : Ints w.heap.size w vm m) :
    Calls Try.prog 8 #[vb, .agg #[.int .i64 x.loc, .int .i64 x.n], vm] w fun e w' => e = .returned (.bool true) ∧ Below w.heap.size w w' := by
  have HHd := Lib.hid (fun W => bhead_any W)
  have HVb := Lib.hid (fun W (hW : Below w.heap.size w W) => show Wrs W.heap.size W vb b from (hb.below hW).more hW.size)
  have HVm := Lib.hid (fun W (hW : Below w.heap.size w W) => show Ints W.heap.size W vm m from (hm.below hW).more hW.size)
  obtain ⟨Ab, cb, rfl, hb1, hb2, hb0, hb3⟩ := hb
  obtain ⟨Am, cm, rfl, hm1, hm2, hm0, hm3⟩ := hm
  unfold maxLen at hb2 hm2
  have HGP := Lib.hid (fun W (hW : Below w.heap.size w W) => bgreat_any W (HVb.out W hW) (HVm.out W hW))
  obtain ⟨j0, hj0, hy0, hy1, hy2⟩ := info_parts info_wr
  obtain ⟨i0, hi0, hz0, hz1, hz2⟩ := info_parts info_int
  have HS3 := Lib.hid (fun W (hW : Below w.heap.size w W) => src_at wrC_len hb0 hb3 hW)
  have HS4 := Lib.hid (fun W (hW : Below w.heap.size w W) => src_at inC_len hm0 hm3 hW)
  have HB0 := Lib.hid hb0
  have HM0 := Lib.hid hm0
  have HLb := Lib.hid (flat_len wrC_len b)
  have HLm := Lib.hid (flat_len inC_len m)
  have HOb := Lib.hid (one_w b)
  have HOm := Lib.hid (one_i m)
  have hbl : (b ++ [x]).length = b.length + 1 := by simp
  have HBL := Lib.hid hbl
  clear hb0 hb3 hm0 hm3 hbl
  have hB := below_al (Below.refl w.heap.size w) (.cells #[.int .i64 x.loc, .int .i64 x.n] 24)
  have x0 : (w.alloc (.cells #[.int .i64 x.loc, .int .i64 x.n] 24)).cell? ⟨w.heap.size, 0, none⟩ = some (.int .i64 x.loc) := by rw [World.cell?_alloc_at _ _ _ _ rfl]; rfl
  have x1 : (w.alloc (.cells #[.int .i64 x.loc, .int .i64 x.n] 24)).cell? ⟨w.heap.size, 1, none⟩ = some (.int .i64 x.n) := by rw [World.cell?_alloc_at _ _ _ _ rfl]; rfl
  go_enter Try.func8, Try.ntmps8
  go_wp2_with fail
  refine (HHd.out _).mono ?_
  rintro e w1 ⟨rfl, hbb⟩
  replace hB := chain hB hbb
  replace x0 := kc hbb x0
  replace x1 := kc hbb x1
  clear hbb HHd
  go_wp2_with fail
  refine (HGP.out _ hB).mono ?_
  rintro e w3 ⟨gb, rfl, hsx, hbb⟩
  replace hB := chain hB hbb
  replace x0 := kc hbb x0
  replace x1 := kc hbb x1
  clear hbb HGP
  cases gb
  case true =>
    go_wp2
    go_ret
    exact ⟨rfl, hB⟩
  obtain ⟨hl3, hm3'⟩ := hsx rfl
  clear hsx
  have hl6 : b.length ≤ 1000000 := by omega
  have hm6 : m.length ≤ 1000000 := by omega
  have hbe := below_al (Below.refl w3.heap.size w3) (.cells #[] 24)
  have HOB := Lib.hid (show (w3.alloc (.cells #[] 24)).ownsRow w3.heap.size 24 2 (.slice (some ⟨w3.heap.size, 0, none⟩) 0 0) 0 [] from by
    have := World.ownsRow_lit (base := w3.heap.size) (e := 24) (size := 2) w3 #[] 0 (Nat.le_refl _) (by decide) rfl
    simpa using this)
  have HXC := Lib.hid (HS3.out _ (chain hB hbe))
  go_wp2_with (at_builtin; refine Hid.out ?_)
  apply Lib.hid
  refine wpList_append_src _ rfl _ _ 22 rfl w3.heap.size 24 j0 (.agg #[.int .i64 0, .int .i64 0]) 2 16 Try.underlying22 hj0 hy0 hy1 hy2 rfl (by decide) _ 0 [] rfl HOB.out Ab b.length cb (b.flatMap wrC) rfl HLb.out HB0.out HXC.out HOb.out (by unfold maxLen; omega) (by omega) (by simp) ?_
  intro v4 w4 ho4 hg4
  simp only [Nat.zero_add, List.nil_append] at ho4
  have hbb := below_append hbe HOB.out (Nat.le_refl _) (by simp) hg4
  have HWA := Lib.hid (fun W (hW : Below w4.heap.size w4 W) => show Wrs W.heap.size W v4 b from ((Rw.own ho4 (Nat.le_refl _)).below hW).more hW.size)
  obtain ⟨A4, c4, rfl⟩ := own_slice ho4
  replace hB := chain hB hbb
  replace x0 := kc hbb x0
  replace x1 := kc hbb x1
  clear hbb HXC HOB hg4 ho4 hbe
  have hbe := below_al (Below.refl w4.heap.size w4) (.cells #[] 3)
  have HOB := Lib.hid (show (w4.alloc (.cells #[] 3)).ownsRow w4.heap.size 3 1 (.slice (some ⟨w4.heap.size, 0, none⟩) 0 0) 0 [] from by
    have := World.ownsRow_lit (base := w4.heap.size) (e := 3) (size := 1) w4 #[] 0 (Nat.le_refl _) (by decide) rfl
    simpa using this)
  have HXD := Lib.hid (HS4.out _ (chain hB hbe))
  go_wp2_with (at_builtin; refine Hid.out ?_)
  apply Lib.hid
  refine wpList_append_src _ rfl _ _ 25 rfl w4.heap.size 3 i0 (.int .i64 0) 1 8 Try.underlying25 hi0 hz0 hz1 hz2 rfl (by decide) _ 0 [] rfl HOB.out Am m.length cm (m.flatMap inC) rfl HLm.out HM0.out HXD.out HOm.out (by unfold maxLen; omega) (by omega) (by simp) ?_
  intro v5 w5 ho5 hg5
  simp only [Nat.zero_add, List.nil_append] at ho5
  have hbb := below_append hbe HOB.out (Nat.le_refl _) (by simp) hg5
  have HWA5 := Lib.hid (fun W (hW : Below w5.heap.size w5 W) => HWA.out W (chain hbb hW))
  have HHA := Lib.hid (fun W (hW : Below w5.heap.size w5 W) => show Ints W.heap.size W v5 m from ((Rw.own ho5 (Nat.le_refl _)).below hW).more hW.size)
  obtain ⟨A5, c5, rfl⟩ := own_slice ho5
  replace hB := chain hB hbb
  replace x0 := kc hbb x0
  replace x1 := kc hbb x1
  clear hbb HXD HOB hg5 ho5 hbe HWA HB0 HM0 HLb HLm HOb HOm HS3 HS4 hj0 hy0 hy1 hy2 hi0 hz0 hz1 hz2
  have HB5 := Lib.hid hB
  have HVB5 := Lib.hid (fun W (hW : Below w5.heap.size w5 W) => HVb.out W (chain HB5.out hW))
  have HVM5 := Lib.hid (fun W (hW : Below w5.heap.size w5 W) => HVm.out W (chain HB5.out hW))
  have hR : Below w5.heap.size w5 w5 := Below.refl _ _
  have HPu := Lib.hid (push_any x w5 (HVb.out w5 hB) (Nat.le_refl _) hl6)
  have HDr := Lib.hid (fun W (hW : Below w.heap.size w W) => drain_any W (HVb.out W hW) (HVm.out W hW) (Nat.le_refl _) hl6 hm6)
  have HAl := Lib.hid (fun W (hW : Below w.heap.size w W) => all_any W (HVb.out W hW) (HVm.out W hW) (Nat.le_refl _) hl6 hm6)
  go_wp2_with fail
  refine HPu.out.mono ?_
  rintro e w6 ⟨u6, rfl, ho6, hbb⟩
  unfold OwnW at ho6
  rw [HBL.out] at ho6
  obtain ⟨gc, cc, rfl, hgc1, hgc2, hgc3, hgc4⟩ := own_form ho6 (by omega)
  unfold maxLen at hgc4
  replace hR := chain hR hbb
  have HO6 := Lib.hid ho6
  clear hbb ho6 HPu hB x0 x1
  go_wp2_with fail
  refine (HDr.out _ (chain HB5.out hR)).mono ?_
  rintro e w7 ⟨d, kk, n1, rfl, hn1, hd, hkk, hkb, hbb⟩
  have HO7 := Lib.hid (own_below HO6.out hbb)
  have hdl := drB_len b m
  have hkl := drM_len b m
  unfold OwnW at hd
  unfold OwnI at hkk
  obtain ⟨nd, xd, hd, hnd⟩ : ∃ n xs, w7.ownsRow n1 24 2 d n xs ∧ n ≤ 1000000 := ⟨_, _, hd, by omega⟩
  obtain ⟨nk, xk, hkk, hnk⟩ : ∃ n xs, w7.ownsRow w6.heap.size 3 1 kk n xs ∧ n ≤ 1000000 := ⟨_, _, hkk, by omega⟩
  have HCD := Lib.hid (fun g (h : d.ownBlock = some g) => hd.lt g h)
  have HCM := Lib.hid (fun g (h : kk.ownBlock = some g) => And.intro (And.intro (hkk.lt g h).1 (hkk.lt g h).2) (hkb g h))
  have HN1 := Lib.hid hn1
  obtain ⟨Ad, cd, rfl⟩ := own_slice hd
  obtain ⟨Ak, ck, rfl⟩ := own_slice hkk
  have HD7 := Lib.hid (And.intro hd hkk)
  replace hR := chain hR hbb
  have hs67 := hbb.size
  clear hbb hd hkk hkb HO6 HDr hdl hkl hn1
  go_wp2_with fail
  refine (HAl.out _ (chain HB5.out hR)).mono ?_
  rintro e w8 ⟨ll, rfl, hll, hbb⟩
  have hall := all_len b m
  unfold OwnI at hll
  obtain ⟨nl, xl, hll, hnl⟩ : ∃ n xs, w8.ownsRow w7.heap.size 3 1 ll n xs ∧ n ≤ 1000000 := ⟨_, _, hll, by omega⟩
  have HCK := Lib.hid (fun g (h : ll.ownBlock = some g) => (hll.lt g h).1)
  obtain ⟨Al, cl, rfl⟩ := own_slice hll
  replace hR := chain hR hbb
  have HST := Lib.hid (show (∃ cs, w8.ownsRow w5.heap.size 24 2 (.slice (some ⟨gc, 0, none⟩) (b.length + 1) cc) (b.length + 1) cs) ∧ (∃ cs, w8.ownsRow n1 24 2 (.slice Ad nd cd) nd cs) ∧ (∃ cs, w8.ownsRow w6.heap.size 3 1 (.slice Ak nk ck) nk cs) ∧ (∃ cs, w8.ownsRow w7.heap.size 3 1 (.slice Al nl cl) nl cs) ∧ Below w5.heap.size w5 w8 from ⟨⟨_, own_below HO7.out hbb⟩, ⟨_, own_below HD7.out.1 hbb⟩, ⟨_, own_below HD7.out.2 hbb⟩, ⟨_, hll⟩, hR⟩)
  have HCB := Lib.hid (And.intro hgc1 hgc2)
  have hs5 := Nat.le_trans hgc1 (Nat.le_of_lt hgc2)
  clear hbb hll HO7 HD7 HAl hall hR hgc1 hgc2 HVb HVm
  go_wp2
  go_loopw [15] (fun i wr => (∃ k : Nat, k ≤ (b.length + 1) ∧ i = .int .i64 k ∧ (∃ cs, wr.ownsRow w5.heap.size 24 2 (.slice (some ⟨gc, 0, none⟩) (b.length + 1) cc) (b.length + 1) cs) ∧ (∃ cs, wr.ownsRow n1 24 2 (.slice Ad nd cd) nd cs) ∧ (∃ cs, wr.ownsRow w6.heap.size 3 1 (.slice Ak nk ck) nk cs) ∧ (∃ cs, wr.ownsRow w7.heap.size 3 1 (.slice Al nl cl) nl cs) ∧ Below w5.heap.size w5 wr)) (fun i _ => (b.length + 1) - (intOf i).toNat)
  case atStart => exact ⟨0, Nat.zero_le _, rfl, HST.out⟩
  case round =>
    obtain ⟨k, hk, rfl, ⟨cs, hc⟩, ⟨xd, pd⟩, ⟨xm, pm⟩, ⟨xk, pk⟩, hR⟩ := hrel
    by_cases hlt : k < (b.length + 1)
    · have hbk : gc < wr.heap.size := (hc.lt gc rfl).2
      have HG := Lib.hid (HCB.out)
      have hcl := own_some hc (show k * 2 + 1 < (b.length + 1) * 2 by omega)
      obtain ⟨old, hcl⟩ := hcl
      have hfr := hc.frozenAt (k * 2 + 1)
      have HN := Lib.hid (hc.stored (k * 2 + 1) (.int .i64 77)).1
      have HPpd := Lib.hid (ownsRow_setCell_below pd (a := ⟨gc, k * 2 + 1, none⟩) (by show gc < _; have := HG.out.2; have := HN1.out; omega) (.int .i64 77))
      have HPpm := Lib.hid (ownsRow_setCell_below pm (a := ⟨gc, k * 2 + 1, none⟩) (by show gc < _; have := HG.out.2; omega) (.int .i64 77))
      have HPpk := Lib.hid (ownsRow_setCell_below pk (a := ⟨gc, k * 2 + 1, none⟩) (by show gc < _; have := HG.out.2; omega) (.int .i64 77))
      have HRR := Lib.hid (hR.setCell (p := ⟨gc, k * 2 + 1, none⟩) (by show _ ≤ gc; have := HG.out.1; omega) (.int .i64 77))
      clear hc hR pd pm pk
      go_wp2
      go_roundw
      case rel => exact ⟨k + 1, by omega, by go_num, ⟨_, HN.out⟩, ⟨_, HPpd.out⟩, ⟨_, HPpm.out⟩, ⟨_, HPpk.out⟩, HRR.out⟩
      case measure => simp [intOf]; omega
    · obtain rfl : (b.length + 1) = k := by omega
      have HST := Lib.hid (show (∃ cs, wr.ownsRow n1 24 2 (.slice Ad nd cd) nd cs) ∧ (∃ cs, wr.ownsRow w6.heap.size 3 1 (.slice Ak nk ck) nk cs) ∧ (∃ cs, wr.ownsRow w7.heap.size 3 1 (.slice Al nl cl) nl cs) ∧ Below w5.heap.size w5 wr from ⟨⟨xd, pd⟩, ⟨xm, pm⟩, ⟨xk, pk⟩, hR⟩)
      clear hc hlt hk pd pm pk hR
      go_wp2
      go_loopw [16] (fun i wr => (∃ k : Nat, k ≤ nd ∧ i = .int .i64 k ∧ (∃ cs, wr.ownsRow n1 24 2 (.slice Ad nd cd) nd cs) ∧ (∃ cs, wr.ownsRow w6.heap.size 3 1 (.slice Ak nk ck) nk cs) ∧ (∃ cs, wr.ownsRow w7.heap.size 3 1 (.slice Al nl cl) nl cs) ∧ Below w5.heap.size w5 wr)) (fun i _ => nd - (intOf i).toNat)
      case atStart => exact ⟨0, Nat.zero_le _, rfl, HST.out⟩
      case round =>
        obtain ⟨k, hk, rfl, ⟨cs, hc⟩, ⟨xm, pm⟩, ⟨xk, pk⟩, hR⟩ := hrel
        by_cases hlt : k < nd
        · obtain ⟨g, c', e, hg1, hg2, hg3, hg4⟩ := own_form hc (by omega)
          injection e with e _ e3
          subst e; subst e3
          have HG := Lib.hid (HCD.out g rfl)
          clear hg3 hg4
          have hcl := own_some hc (show k * 2 + 1 < nd * 2 by omega)
          obtain ⟨old, hcl⟩ := hcl
          have hfr := hc.frozenAt (k * 2 + 1)
          have HN := Lib.hid (hc.stored (k * 2 + 1) (.int .i64 77)).1
          have HPpm := Lib.hid (ownsRow_setCell_other pm (a := ⟨g, k * 2 + 1, none⟩) (fun e => by have := (HCM.out g e).2; have := HG.out.1; omega) (.int .i64 77))
          have HPpk := Lib.hid (ownsRow_setCell_below pk (a := ⟨g, k * 2 + 1, none⟩) (by show g < _; have := HG.out.2; omega) (.int .i64 77))
          have HRR := Lib.hid (hR.setCell (p := ⟨g, k * 2 + 1, none⟩) (by show _ ≤ g; have := HG.out.1; have := HN1.out; omega) (.int .i64 77))
          clear hc hR pm pk
          go_wp2
          go_roundw
          case rel => exact ⟨k + 1, by omega, by go_num, ⟨_, HN.out⟩, ⟨_, HPpm.out⟩, ⟨_, HPpk.out⟩, HRR.out⟩
          case measure => simp [intOf]; omega
        · obtain rfl : nd = k := by omega
          have HST := Lib.hid (show (∃ cs, wr.ownsRow w6.heap.size 3 1 (.slice Ak nk ck) nk cs) ∧ (∃ cs, wr.ownsRow w7.heap.size 3 1 (.slice Al nl cl) nl cs) ∧ Below w5.heap.size w5 wr from ⟨⟨xm, pm⟩, ⟨xk, pk⟩, hR⟩)
          clear hc hlt hk pm pk hR
          go_wp2
          go_loopw [17] (fun i wr => (∃ k : Nat, k ≤ nk ∧ i = .int .i64 k ∧ (∃ cs, wr.ownsRow w6.heap.size 3 1 (.slice Ak nk ck) nk cs) ∧ (∃ cs, wr.ownsRow w7.heap.size 3 1 (.slice Al nl cl) nl cs) ∧ Below w5.heap.size w5 wr)) (fun i _ => nk - (intOf i).toNat)
          case atStart => exact ⟨0, Nat.zero_le _, rfl, HST.out⟩
          case round =>
            obtain ⟨k, hk, rfl, ⟨cs, hc⟩, ⟨xk, pk⟩, hR⟩ := hrel
            by_cases hlt : k < nk
            · obtain ⟨g, c', e, hg1, hg2, hg3, hg4⟩ := own_form hc (by omega)
              injection e with e _ e3
              subst e; subst e3
              have HG := Lib.hid (HCM.out g rfl)
              clear hg3 hg4
              have hcl := own_some hc (show k < nk * 1 by omega)
              obtain ⟨old, hcl⟩ := hcl
              have hfr := hc.frozenAt (k)
              have HN := Lib.hid (hc.stored (k) (.int .i64 77)).1
              have HPpk := Lib.hid (ownsRow_setCell_below pk (a := ⟨g, k, none⟩) (by show g < _; have := HG.out.1.2; omega) (.int .i64 77))
              have HRR := Lib.hid (hR.setCell (p := ⟨g, k, none⟩) (by show _ ≤ g; have := HG.out.1; omega) (.int .i64 77))
              clear hc hR pk
              go_wp2
              go_roundw
              case rel => exact ⟨k + 1, by omega, by go_num, ⟨_, HN.out⟩, ⟨_, HPpk.out⟩, HRR.out⟩
              case measure => simp [intOf]; omega
            · obtain rfl : nk = k := by omega
              have HST := Lib.hid (show (∃ cs, wr.ownsRow w7.heap.size 3 1 (.slice Al nl cl) nl cs) ∧ Below w5.heap.size w5 wr from ⟨⟨xk, pk⟩, hR⟩)
              clear hc hlt hk pk hR
              go_wp2
              go_loopw [18] (fun i wr => (∃ k : Nat, k ≤ nl ∧ i = .int .i64 k ∧ (∃ cs, wr.ownsRow w7.heap.size 3 1 (.slice Al nl cl) nl cs) ∧ Below w5.heap.size w5 wr)) (fun i _ => nl - (intOf i).toNat)
              case atStart => exact ⟨0, Nat.zero_le _, rfl, HST.out⟩
              case round =>
                obtain ⟨k, hk, rfl, ⟨cs, hc⟩, hR⟩ := hrel
                by_cases hlt : k < nl
                · obtain ⟨g, c', e, hg1, hg2, hg3, hg4⟩ := own_form hc (by omega)
                  injection e with e _ e3
                  subst e; subst e3
                  have HG := Lib.hid (HCK.out g rfl)
                  clear hg3 hg4
                  have hcl := own_some hc (show k < nl * 1 by omega)
                  obtain ⟨old, hcl⟩ := hcl
                  have hfr := hc.frozenAt (k)
                  have HN := Lib.hid (hc.stored (k) (.int .i64 77)).1
                  have HRR := Lib.hid (hR.setCell (p := ⟨g, k, none⟩) (by show _ ≤ g; have := HG.out; omega) (.int .i64 77))
                  clear hc hR 
                  go_wp2
                  go_roundw
                  case rel => exact ⟨k + 1, by omega, by go_num, ⟨_, HN.out⟩, HRR.out⟩
                  case measure => simp [intOf]; omega
                · obtain rfl : nl = k := by omega
                  have HST := Lib.hid (show Below w5.heap.size w5 wr from hR)
                  clear hc hlt hk hR
                  have hR := HST.out
                  have HSa := Lib.hid (fun W (hW : Below w5.heap.size w5 W) => same_any W (HVB5.out W hW) (HWA5.out W hW) (Nat.le_refl _))
                  have HSi := Lib.hid (fun W (hW : Below w5.heap.size w5 W) => sameints_any W (HVM5.out W hW) (HHA.out W hW) (Nat.le_refl _))
                  go_wp2_with fail
                  refine (HSa.out _ hR).mono ?_
                  rintro e w9 ⟨rfl, hbb⟩
                  replace hR := chain hR hbb
                  clear hbb HSa
                  go_wp2_with fail
                  refine (HSi.out _ hR).mono ?_
                  rintro e w10 ⟨rfl, hbb⟩
                  have hE := chain HB5.out (chain hR hbb)
                  clear hbb HSi hR
                  go_wp2
                  go_ret
                  exact ⟨rfl, hE⟩
end Go.Proofs.Ytnfdaajbfheocaa
