/-
  OutsLike: the law's own walk.
-/
import Derived.Test.YtodpajnpnobfmaaOtV
namespace Go.Proofs.Ytodpajnpnobfmaa
open Go.RowKit
set_option linter.unusedVariables false
set_option linter.unusedSimpArgs false
open OtM
set_option maxHeartbeats 8000000 in
set_option maxRecDepth 100000 in
theorem outslike_any (w : World) {vl : Value} {l : List OV} (hl : OutsX w.heap.size w vl l) {vm : Value} {m : List OV} (hm : OutsX w.heap.size w vm m) : Calls Try.prog 8 #[vl, vm] w fun e w' => e = .returned (.bool true) ∧ Below w.heap.size w w' := by
  have HLl := Lib.hid (fun W (hW : Below w.heap.size w W) => (hl.below hW).more hW.size)
  have HDl := Lib.hid hl
  obtain ⟨L1, lc1, rfl⟩ : ∃ A c, vl = .slice A l.length c := by obtain ⟨⟨A, c, rfl, -⟩, -⟩ := hl; exact ⟨_, _, rfl⟩
  clear hl
  obtain ⟨ln, hln⟩ : ∃ n, n = l.length := ⟨_, rfl⟩
  have HNl := Lib.hid hln
  rw [← hln] at HLl HDl ⊢
  clear hln
  have HLm := Lib.hid (fun W (hW : Below w.heap.size w W) => (hm.below hW).more hW.size)
  have HDm := Lib.hid hm
  obtain ⟨M1, mc1, rfl⟩ : ∃ A c, vm = .slice A m.length c := by obtain ⟨⟨A, c, rfl, -⟩, -⟩ := hm; exact ⟨_, _, rfl⟩
  clear hm
  obtain ⟨mn, hmn⟩ : ∃ n, n = m.length := ⟨_, rfl⟩
  have HNm := Lib.hid hmn
  rw [← hmn] at HLm HDm ⊢
  clear hmn
  have HB := Lib.hid (Below.refl w.heap.size w)
  go_enter Try.func8, Try.ntmps8
  go_wp2_with fail
  have C := head15_any w
  refine C.mono ?_
  rintro e X1 ⟨rfl, hb⟩
  clear C
  replace HB := Lib.hid (chain HB.out hb)
  clear hb
  go_wp2_with fail
  have C := big_any X1 (HLl.out _ HB.out) (Nat.le_refl _)
  refine C.mono ?_
  rintro e X2 ⟨bb, rfl, hf, hb⟩
  clear C
  replace HB := Lib.hid (chain HB.out hb)
  have HFl := Lib.hid hf
  clear hf
  clear hb
  cases bb
  rotate_left
  · skip
    go_wp2
    go_ret
    exact ⟨rfl, HB.out⟩
  replace HFl := Lib.hid (HFl.out rfl)
  go_wp2_with fail
  have C := big_any X2 (HLm.out _ HB.out) (Nat.le_refl _)
  refine C.mono ?_
  rintro e X3 ⟨bb, rfl, hf, hb⟩
  clear C
  replace HB := Lib.hid (chain HB.out hb)
  have HFm := Lib.hid hf
  clear hf
  clear hb
  cases bb
  rotate_left
  · skip
    go_wp2
    go_ret
    exact ⟨rfl, HB.out⟩
  replace HFm := Lib.hid (HFm.out rfl)
  by_cases hs : Srt (os l)
  rotate_left
  · skip
    have e1 := Lib.hid (show srtB (os l) = false from decide_eq_false hs)
    clear hs
    go_wp2_with fail
    have C := rset_any X3 (HLl.out _ HB.out) (Nat.le_refl _) (by have := HNl.out; have := HFl.out.len6; omega)
    rw [e1.out] at C
    refine C.mono ?_
    rintro e X4 ⟨rfl, hb⟩
    clear C
    replace HB := Lib.hid (chain HB.out hb)
    clear hb
    go_wp2
    go_ret
    exact ⟨rfl, HB.out⟩
  have HSl := Lib.hid hs
  have El := Lib.hid (show srtB (os l) = true from decide_eq_true hs)
  clear hs
  go_wp2_with fail
  have C := rset_any X3 (HLl.out _ HB.out) (Nat.le_refl _) (by have := HNl.out; have := HFl.out.len6; omega)
  rw [El.out] at C
  refine C.mono ?_
  rintro e X5 ⟨rfl, hb⟩
  clear C
  replace HB := Lib.hid (chain HB.out hb)
  clear hb
  by_cases hs : Srt (os m)
  rotate_left
  · skip
    have e1 := Lib.hid (show srtB (os m) = false from decide_eq_false hs)
    clear hs
    go_wp2_with fail
    have C := rset_any X5 (HLm.out _ HB.out) (Nat.le_refl _) (by have := HNm.out; have := HFm.out.len6; omega)
    rw [e1.out] at C
    refine C.mono ?_
    rintro e X6 ⟨rfl, hb⟩
    clear C
    replace HB := Lib.hid (chain HB.out hb)
    clear hb
    go_wp2
    go_ret
    exact ⟨rfl, HB.out⟩
  have HSm := Lib.hid hs
  have Em := Lib.hid (show srtB (os m) = true from decide_eq_true hs)
  clear hs
  go_wp2_with fail
  have C := rset_any X5 (HLm.out _ HB.out) (Nat.le_refl _) (by have := HNm.out; have := HFm.out.len6; omega)
  rw [Em.out] at C
  refine C.mono ?_
  rintro e X7 ⟨rfl, hb⟩
  clear C
  replace HB := Lib.hid (chain HB.out hb)
  clear hb
  by_cases he : os l = os m
  · skip
    have HE := Lib.hid (show decide (os l = os m) = true from decide_eq_true he)
    have HZ := Lib.hid ((minO_like HSl.out HSm.out).1 he)
    clear he
    go_wp2_with fail
    have C := rsame_any X7 (HLl.out _ HB.out) (HLm.out _ HB.out) (Nat.le_refl _) HFl.out.len6 HFm.out.len6
    rw [HE.out] at C
    refine C.mono ?_
    rintro e X8 ⟨rfl, hb⟩
    clear C
    replace HB := Lib.hid (chain HB.out hb)
    clear hb
    go_wp2_with fail
    have C := ominus_any X8 (HLl.out _ HB.out) (HLm.out _ HB.out) (Nat.le_refl _) HFl.out.len6 HFl.out.sm HFm.out.len6 HSm.out
    refine C.mono ?_
    rintro e X9 ⟨u1, z1, rfl, hz1, ho1, hb⟩
    clear C
    replace HB := Lib.hid (chain HB.out hb)
    obtain ⟨A1, d1, rfl⟩ := own_slice ho1.1
    obtain ⟨n1, hn1⟩ : ∃ n, n = z1.length := ⟨_, rfl⟩
    have HM1 := Lib.hid (show n1 = (minO (os l) (os m)).length from by rw [hn1, ← hz1]; simp)
    rw [← hn1]
    clear hn1 hz1 ho1
    clear hb
    obtain rfl : n1 = 0 := HM1.out.trans HZ.out.1
    go_wp2_with fail
    have C := ominus_any X9 (HLm.out _ HB.out) (HLl.out _ HB.out) (Nat.le_refl _) HFm.out.len6 HFm.out.sm HFl.out.len6 HSl.out
    refine C.mono ?_
    rintro e X10 ⟨u2, z2, rfl, hz2, ho2, hb⟩
    clear C
    replace HB := Lib.hid (chain HB.out hb)
    obtain ⟨A2, d2, rfl⟩ := own_slice ho2.1
    obtain ⟨n2, hn2⟩ : ∃ n, n = z2.length := ⟨_, rfl⟩
    have HM2 := Lib.hid (show n2 = (minO (os m) (os l)).length from by rw [hn2, ← hz2]; simp)
    rw [← hn2]
    clear hn2 hz2 ho2
    clear hb
    obtain rfl : n2 = 0 := HM2.out.trans HZ.out.2
    go_wp2
    go_ret
    exact ⟨rfl, HB.out⟩
  · skip
    have HE := Lib.hid (show decide (os l = os m) = false from decide_eq_false he)
    have HZ := Lib.hid (fun h1 h2 => he ((minO_like HSl.out HSm.out).2 ⟨h1, h2⟩))
    clear he
    go_wp2_with fail
    have C := rsame_any X7 (HLl.out _ HB.out) (HLm.out _ HB.out) (Nat.le_refl _) HFl.out.len6 HFm.out.len6
    rw [HE.out] at C
    refine C.mono ?_
    rintro e X11 ⟨rfl, hb⟩
    clear C
    replace HB := Lib.hid (chain HB.out hb)
    clear hb
    go_wp2_with fail
    have C := ominus_any X11 (HLl.out _ HB.out) (HLm.out _ HB.out) (Nat.le_refl _) HFl.out.len6 HFl.out.sm HFm.out.len6 HSm.out
    refine C.mono ?_
    rintro e X12 ⟨u1, z1, rfl, hz1, ho1, hb⟩
    clear C
    replace HB := Lib.hid (chain HB.out hb)
    obtain ⟨A1, d1, rfl⟩ := own_slice ho1.1
    obtain ⟨n1, hn1⟩ : ∃ n, n = z1.length := ⟨_, rfl⟩
    have HM1 := Lib.hid (show n1 = (minO (os l) (os m)).length from by rw [hn1, ← hz1]; simp)
    rw [← hn1]
    clear hn1 hz1 ho1
    clear hb
    by_cases h1 : n1 = 0
    · skip
      have HO := Lib.hid (HM1.out.symm.trans h1)
      subst h1
      go_wp2_with fail
      have C := ominus_any X12 (HLm.out _ HB.out) (HLl.out _ HB.out) (Nat.le_refl _) HFm.out.len6 HFm.out.sm HFl.out.len6 HSl.out
      refine C.mono ?_
      rintro e X13 ⟨u2, z2, rfl, hz2, ho2, hb⟩
      clear C
      replace HB := Lib.hid (chain HB.out hb)
      obtain ⟨A2, d2, rfl⟩ := own_slice ho2.1
      obtain ⟨n2, hn2⟩ : ∃ n, n = z2.length := ⟨_, rfl⟩
      have HM2 := Lib.hid (show n2 = (minO (os m) (os l)).length from by rw [hn2, ← hz2]; simp)
      rw [← hn2]
      clear hn2 hz2 ho2
      clear hb
      have h2 : ¬ n2 = 0 := fun h => HZ.out HO.out (HM2.out.symm.trans h)
      have h3 : ((n2 : Int) == 0) = false := beq_eq_false_iff_ne.2 (by omega)
      go_wp2
      go_ret
      exact ⟨rfl, HB.out⟩
    · skip
      have h3 : ((n1 : Int) == 0) = false := beq_eq_false_iff_ne.2 (by omega)
      go_wp2
      go_ret
      exact ⟨rfl, HB.out⟩
end Go.Proofs.Ytodpajnpnobfmaa
