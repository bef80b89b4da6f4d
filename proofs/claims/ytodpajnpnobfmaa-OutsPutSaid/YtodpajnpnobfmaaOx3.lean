/-
  OutsPut: the law's own walk.
-/
import Derived.Test.YtodpajnpnobfmaaOtV
namespace Go.Proofs.Ytodpajnpnobfmaa
open Go.RowKit
set_option linter.unusedVariables false
set_option linter.unusedSimpArgs false
open OtM
set_option maxHeartbeats 8000000 in
set_option maxRecDepth 100000 in
theorem outsput_any (w : World) {vl : Value} {l : List OV} (hl : OutsX w.heap.size w vl l) {o : OV} (ho : OvOk w.heap.size w o) {vr : Value} {r : List OV} (hr : OutsX w.heap.size w vr r) : Calls Try.prog 5 #[vl, .agg #[o.m, o.r], vr] w fun e w' => e = .returned (.bool true) ∧ Below w.heap.size w w' := by
  have HLl := Lib.hid (fun W (hW : Below w.heap.size w W) => (hl.below hW).more hW.size)
  have HDl := Lib.hid hl
  obtain ⟨L1, lc1, rfl⟩ : ∃ A c, vl = .slice A l.length c := by obtain ⟨⟨A, c, rfl, -⟩, -⟩ := hl; exact ⟨_, _, rfl⟩
  clear hl
  obtain ⟨ln, hln⟩ : ∃ n, n = l.length := ⟨_, rfl⟩
  have HNl := Lib.hid hln
  rw [← hln] at HLl HDl ⊢
  clear hln
  obtain ⟨om, or, oo⟩ := o
  obtain ⟨O1, on1, oc1, eo1⟩ := ho.1.sl
  obtain ⟨O2, on2, oc2, eo2⟩ := ho.2.sl
  dsimp only at eo1 eo2 ⊢
  subst eo1 eo2
  have HVo := Lib.hid (fun W (hW : Below w.heap.size w W) => (ho.below hW).more hW.size)
  clear ho
  have HLr := Lib.hid (fun W (hW : Below w.heap.size w W) => (hr.below hW).more hW.size)
  have HDr := Lib.hid hr
  obtain ⟨R1, rc1, rfl⟩ : ∃ A c, vr = .slice A r.length c := by obtain ⟨⟨A, c, rfl, -⟩, -⟩ := hr; exact ⟨_, _, rfl⟩
  clear hr
  obtain ⟨rn, hrn⟩ : ∃ n, n = r.length := ⟨_, rfl⟩
  have HNr := Lib.hid hrn
  rw [← hrn] at HLr HDr ⊢
  clear hrn
  obtain ⟨W0, hW0⟩ : ∃ W, W = w.alloc (.cells #[.slice O1 on1 oc1, .slice O2 on2 oc2] 24) := ⟨_, rfl⟩
  obtain ⟨g0, hg0⟩ : ∃ g, g = w.heap.size := ⟨_, rfl⟩
  have hb0 : Below w.heap.size w W0 := by rw [hW0]; exact below_al (Below.refl _ _) _
  obtain ⟨c00, c01⟩ : W0.cell? ⟨g0, 0, none⟩ = some (.slice O1 on1 oc1) ∧ W0.cell? ⟨g0, 1, none⟩ = some (.slice O2 on2 oc2) := by rw [hW0, hg0]; exact box2 (w := w) _ _ _
  have HB := Lib.hid (hb0)
  have HS0 := Lib.hid hg0
  have HCH := Lib.hid (show W0 = (w.alloc (.cells #[.slice O1 on1 oc1, .slice O2 on2 oc2] 24)) from by rw [hW0])
  clear hW0 hg0 hb0
  go_enter Try.func5, Try.ntmps5
  go_upto_region 1 with fail
  rw [← HCH.out, ← HS0.out]
  clear HCH HS0
  go_wp2_with fail
  have C := head15_any W0
  refine C.mono ?_
  rintro e X1 ⟨rfl, hb⟩
  clear C
  replace c00 := kc hb c00
  replace c01 := kc hb c01
  replace HB := Lib.hid (chain HB.out hb)
  clear hb
  go_wp2_with fail
  have C := big_any X1 (HLl.out _ HB.out) (Nat.le_refl _)
  refine C.mono ?_
  rintro e X2 ⟨bb, rfl, hf, hb⟩
  clear C
  replace c00 := kc hb c00
  replace c01 := kc hb c01
  replace HB := Lib.hid (chain HB.out hb)
  have HFl := Lib.hid hf
  clear hf
  clear hb
  cases bb
  rotate_left
  · skip
    go_wp2
    go_ret
    exact ⟨rfl, HB.out⟩
  replace HFl := Lib.hid (HFl.out rfl)
  go_wp2_with fail
  have C := big_any X2 (HLr.out _ HB.out) (Nat.le_refl _)
  refine C.mono ?_
  rintro e X3 ⟨bb, rfl, hf, hb⟩
  clear C
  replace c00 := kc hb c00
  replace c01 := kc hb c01
  replace HB := Lib.hid (chain HB.out hb)
  have HFr := Lib.hid hf
  clear hf
  clear hb
  cases bb
  rotate_left
  · skip
    go_wp2
    go_ret
    exact ⟨rfl, HB.out⟩
  replace HFr := Lib.hid (HFr.out rfl)
  obtain ⟨X4, hX⟩ : ∃ X, X = X3.alloc (.cells #[.slice O1 on1 oc1, .slice O2 on2 oc2] 24) := ⟨_, rfl⟩
  obtain ⟨gX4, hg⟩ : ∃ g, g = X3.heap.size := ⟨_, rfl⟩
  have hb : Below X3.heap.size X3 X4 := by rw [hX]; exact below_al (Below.refl _ _) _
  have HR := Lib.hid (show OutsX X4.heap.size X4 (.slice (some ⟨gX4, 0, none⟩) 1 1) [⟨.slice O1 on1 oc1, .slice O2 on2 oc2, oo⟩] from by rw [hX, hg]; exact lit_outs X3 [⟨.slice O1 on1 oc1, .slice O2 on2 oc2, oo⟩] rfl (by intro x hx; simp only [List.mem_cons, List.not_mem_nil, or_false] at hx; subst hx; exact (HVo.out _ HB.out)))
  go_wp2_with fail
  rw [← hX]
  (try rw [← hg])
  have hq := kc hb c00; clear c00; have c00 := hq; clear hq
  have hq := kc hb c01; clear c01; have c01 := hq; clear hq
  replace HB := Lib.hid (chain HB.out hb)
  clear hX hg hb
  go_wp2_with fail
  have C := big_any X4 HR.out (Nat.le_refl _)
  refine C.mono ?_
  rintro e X5 ⟨bb, rfl, hf, hb⟩
  clear C
  replace c00 := kc hb c00
  replace c01 := kc hb c01
  replace HB := Lib.hid (chain HB.out hb)
  replace HR := Lib.hid ((HR.out.below hb).more hb.size)
  have HFo := Lib.hid hf
  clear hf
  clear hb
  cases bb
  rotate_left
  · skip
    go_wp2
    go_ret
    exact ⟨rfl, HB.out⟩
  replace HFo := Lib.hid (HFo.out rfl)
  clear HR
  have HFA := Lib.hid ((HFo.out.each _ (List.mem_cons_self ..)))
  by_cases hs : Srt (os l)
  rotate_left
  · skip
    have e1 := Lib.hid (show srtB (os l) = false from decide_eq_false hs)
    clear hs
    go_wp2_with fail
    have C := rset_any X5 (HLl.out _ HB.out) (Nat.le_refl _) HFl.out.len6
    rw [e1.out] at C
    refine C.mono ?_
    rintro e X6 ⟨rfl, hb⟩
    clear C
    replace c00 := kc hb c00
    replace c01 := kc hb c01
    replace HB := Lib.hid (chain HB.out hb)
    clear hb
    go_wp2
    go_ret
    exact ⟨rfl, HB.out⟩
  have HSl := Lib.hid hs
  have El := Lib.hid (show srtB (os l) = true from decide_eq_true hs)
  clear hs
  go_wp2_with fail
  have C := rset_any X5 (HLl.out _ HB.out) (Nat.le_refl _) HFl.out.len6
  rw [El.out] at C
  refine C.mono ?_
  rintro e X7 ⟨rfl, hb⟩
  clear C
  replace c00 := kc hb c00
  replace c01 := kc hb c01
  replace HB := Lib.hid (chain HB.out hb)
  clear hb
  go_wp2_with fail
  have C := oput_any X7 (HLl.out _ HB.out) (HVo.out _ HB.out).out (Nat.le_refl _) HFl.out.len6 HFl.out.sm (Nat.le_trans HFA.out.1 (by decide)) (Nat.le_trans HFA.out.2 (by decide)) HSl.out
  refine C.mono ?_
  rintro e X8 ⟨u1, z1, rfl, hz1, ho1, hb⟩
  clear C
  replace c00 := kc hb c00
  replace c01 := kc hb c01
  replace HB := Lib.hid (chain HB.out hb)
  have HZ1 := Lib.hid (show OutsX X8.heap.size X8 u1 z1 from ho1.outs)
  obtain ⟨A7, d7, rfl⟩ := own_slice ho1.1
  have HM1 := Lib.hid hz1
  have HL1 := Lib.hid (show z1.length = l.length + if oo ∈ os l then 0 else 1 from by have h1 := congrArg List.length hz1; rw [putO_len] at h1; simpa using h1)
  have HS1 := Lib.hid (show Srt (os z1) from by rw [hz1]; exact putO_srt HSl.out _)
  have E1 := Lib.hid (show srtB (os z1) = true from decide_eq_true HS1.out)
  have HIN := Lib.hid (show decide (oo ∈ os z1) = true from decide_eq_true (by rw [hz1, putO_mem]; exact .inl rfl))
  have HSM1 := Lib.hid (show SmO z1 from fun x hx => by
    have h1 : x.o ∈ os z1 := List.mem_map.2 ⟨x, hx, rfl⟩
    rw [hz1, putO_mem] at h1
    rcases h1 with h1 | h1
    · rw [h1]; exact ⟨Nat.le_trans HFA.out.1 (by decide), Nat.le_trans HFA.out.2 (by decide)⟩
    · obtain ⟨y, hy, e⟩ := List.mem_map.1 h1
      have := HFl.out.sm y hy
      rwa [e] at this)
  obtain ⟨zn, hzn⟩ : ∃ n, n = z1.length := ⟨_, rfl⟩
  have HZN := Lib.hid hzn
  rw [← hzn] at HZ1 HL1 ⊢
  clear hzn
  clear hz1 ho1
  clear hb
  have hln : ln ≤ 150 := by have := HFl.out.len; have := HNl.out; omega
  have hrn : rn ≤ 150 := by have := HFr.out.len; have := HNr.out; omega
  have HZ6 := Lib.hid (show z1.length ≤ 1000000 from by have h1 := HL1.out; have h2 := HZN.out; have h3 := HFl.out.len; split at h1 <;> omega)
  obtain ⟨mo, pb, HPB, HMO⟩ : ∃ (mo : Nat) (pb : Bool), Hid (decide (oo ∈ os l) = pb) ∧ Hid ((pb = true → mo = 0) ∧ (pb = false → mo = 1) ∧ zn = ln + mo) := by
    by_cases h : oo ∈ os l
    · exact ⟨0, true, Lib.hid (decide_eq_true h), Lib.hid ⟨fun _ => rfl, fun h => (by cases h), by have h1 := HL1.out; have := HNl.out; rw [if_pos h] at h1; omega⟩⟩
    · exact ⟨1, false, Lib.hid (decide_eq_false h), Lib.hid ⟨fun h => (by cases h), fun _ => rfl, by have h1 := HL1.out; have := HNl.out; rw [if_neg h] at h1; omega⟩⟩
  go_wp2_with fail
  have C := ohas_any X8 (HLl.out _ HB.out) (HVo.out _ HB.out).out (Nat.le_refl _) HFl.out.len6 HSl.out
  rw [HPB.out] at C
  refine C.mono ?_
  rintro e X9 ⟨rfl, hb⟩
  replace hb := hb.1
  clear C
  replace c00 := kc hb c00
  replace c01 := kc hb c01
  replace HB := Lib.hid (chain HB.out hb)
  replace HZ1 := Lib.hid ((HZ1.out.below hb).more hb.size)
  clear hb
  cases pb
  · skip
    obtain rfl : mo = 1 := HMO.out.2.1 rfl
    have hzm : zn = ln + 1 := by have := HMO.out; simp at this; omega
    have HZM := Lib.hid hzm
    clear hzm HMO
    go_wp2
    go_loopw [10, 11] (fun s i wr => ∃ (k : Nat) (j : Int) (acc : List OV) (AA : Option Addr) (na ca : Nat), k ≤ rn ∧ s = .slice AA na ca ∧ i = .int .i64 j ∧ Hid (j = (k : Int) - 1) ∧ -1 ≤ j ∧ j ≤ 150 ∧ Hid (OutsX wr.heap.size wr (.slice AA na ca) acc) ∧ Hid (os acc = ofO (os (r.drop k))) ∧ Below X9.heap.size X9 wr) (fun _ i _ => (intOf i + 1).toNat)
    case atStart => exact ⟨rn, (rn : Int) - 1, [], none, 0, 0, Nat.le_refl _, rfl, rfl, Lib.hid rfl, by omega, by omega, Lib.hid ⟨Rw.nil _ _, fun x hx => (by cases hx)⟩, Lib.hid (by rw [List.drop_of_length_le (by have := HNr.out; omega)]; rfl), Below.refl _ _⟩
    case round =>
      obtain ⟨k, j, acc, AA, na, ca, hk, rfl, rfl, HJ, hj1, hj2, hacc, HAE, hb⟩ := hrel
      have HX := Lib.hid hb
      have HAC := Lib.hid hacc.out
      clear hacc
      replace c00 := kc hb c00
      replace c01 := kc hb c01
      replace HB := Lib.hid (chain HB.out hb)
      replace HZ1 := Lib.hid ((HZ1.out.below hb).more hb.size)
      clear hb
      rcases Nat.eq_zero_or_pos k with hk0 | hkp
      rotate_left
      · skip
        obtain ⟨p, hp⟩ : ∃ p, p = k - 1 := ⟨_, rfl⟩
        obtain rfl : j = (p : Int) := by have := HJ.out; omega
        have HKP := Lib.hid (show k = p + 1 from by omega)
        have hpr : p < rn := by omega
        clear hp hkp hj1 hj2
        have hpx : p < r.length := by have := HNr.out; omega
        obtain ⟨b1, f1, rfl, hl1, p0, p1⟩ := row_at HDr.out p hpx
        have d1 := (HB.out.cell (p := ⟨b1, f1 + p * 2, none⟩) hl1).trans p0
        have d2 := (HB.out.cell (p := ⟨b1, f1 + p * 2 + 1, none⟩) hl1).trans p1
        have HO := HDr.out.2 r[p] (List.getElem_mem hpx)
        have HSX := HFr.out.sm r[p] (List.getElem_mem hpx)
        have HDR := Lib.hid (show os (r.drop p) = r[p].o :: os (r.drop (p + 1)) from by rw [List.drop_eq_getElem_cons hpx]; rfl)
        obtain ⟨x, hx⟩ : ∃ x, x = r[p] := ⟨_, rfl⟩
        rw [← hx] at d1 d2 HO HSX HDR
        clear hx p0 p1 hpx
        obtain ⟨xm, xr, xo⟩ := x
        obtain ⟨X1a, xn1, xc1, e1⟩ := HO.1.sl
        obtain ⟨X2a, xn2, xc2, e2⟩ := HO.2.sl
        dsimp only at e1 e2 d1 d2 HDR HSX
        subst e1 e2
        have HVx := Lib.hid (fun W (hW : Below w.heap.size w W) => (HO.below hW).more hW.size)
        have HSX := Lib.hid HSX
        clear HO
        have HAL := Lib.hid (show acc.length ≤ 1000000 from by
          have h1 := congrArg List.length HAE.out
          have h2 := ofO_len (os (r.drop k))
          have h3 := HFr.out.len
          simp at h1 h2; omega)
        have HAS := Lib.hid (show Srt (os acc) from by rw [HAE.out]; exact ofO_srt _)
        have HAM := Lib.hid (show SmO acc from fun x hx => by
          have h1 : x.o ∈ os acc := List.mem_map.2 ⟨x, hx, rfl⟩
          rw [HAE.out, ofO_mem] at h1
          obtain ⟨y, hy, e⟩ := List.mem_map.1 h1
          have := HFr.out.sm y (List.mem_of_mem_drop hy)
          rwa [e] at this)
        go_wp2_with fail
        have C := oput_any wr HAC.out (HVx.out _ HB.out).out (Nat.le_refl _) HAL.out HAM.out HSX.out.1 HSX.out.2 HAS.out
        refine C.mono ?_
        rintro e X10 ⟨u2, z2, rfl, hz2, ho2, hb⟩
        clear C
        replace c00 := kc hb c00
        replace c01 := kc hb c01
        replace HB := Lib.hid (chain HB.out hb)
        replace HZ1 := Lib.hid ((HZ1.out.below hb).more hb.size)
        replace HX := Lib.hid (chain HX.out hb)
        have HAC2 := Lib.hid (show OutsX X10.heap.size X10 u2 z2 from ho2.outs)
        obtain ⟨A8, d8, rfl⟩ := own_slice ho2.1
        have HAE2 := Lib.hid (show os z2 = ofO (os (r.drop p)) from by rw [hz2, HAE.out, HKP.out, ofO_cons, ← HDR.out])
        clear hz2 ho2 d1 d2
        clear hb
        go_wp2
        go_roundw
        case rel => exact ⟨p, (p : Int) - 1, z2, A8, _, d8, by omega, rfl, by go_num, Lib.hid rfl, by omega, by omega, HAC2, HAE2, HX.out⟩
        case measure => first | (simp [intOf]; done) | (simp [intOf]; omega)
      · skip
        subst hk0
        obtain rfl : j = -1 := by have := HJ.out; omega
        clear HJ hj1 hj2 HX
        replace HAE := Lib.hid (show os acc = ofO (os r) from HAE.out)
        go_wp2_with fail
        have C := rset_any wr HZ1.out (Nat.le_refl _) HZ6.out
        rw [E1.out] at C
        refine C.mono ?_
        rintro e X11 ⟨rfl, hb⟩
        clear C
        replace c00 := kc hb c00
        replace c01 := kc hb c01
        replace HB := Lib.hid (chain HB.out hb)
        replace HZ1 := Lib.hid ((HZ1.out.below hb).more hb.size)
        replace HAC := Lib.hid ((HAC.out.below hb).more hb.size)
        clear hb
        have hzq : ((zn : Int) == (ln : Int) + 1) = true := by have := HZM.out; simp; omega
        go_wp2_with fail
        have C := ohas_any X11 HZ1.out (HVo.out _ HB.out).out (Nat.le_refl _) HZ6.out HS1.out
        rw [HIN.out] at C
        refine C.mono ?_
        rintro e X12 ⟨rfl, hb⟩
        replace hb := hb.1
        clear C
        replace c00 := kc hb c00
        replace c01 := kc hb c01
        replace HB := Lib.hid (chain HB.out hb)
        replace HZ1 := Lib.hid ((HZ1.out.below hb).more hb.size)
        replace HAC := Lib.hid ((HAC.out.below hb).more hb.size)
        clear hb
        go_wp2_with fail
        have C := oput_any X12 HZ1.out (HVo.out _ HB.out).out (Nat.le_refl _) HZ6.out HSM1.out (Nat.le_trans HFA.out.1 (by decide)) (Nat.le_trans HFA.out.2 (by decide)) HS1.out
        refine C.mono ?_
        rintro e X13 ⟨u3, z3, rfl, hz3, ho3, hb⟩
        clear C
        replace c00 := kc hb c00
        replace c01 := kc hb c01
        replace HB := Lib.hid (chain HB.out hb)
        replace HZ1 := Lib.hid ((HZ1.out.below hb).more hb.size)
        replace HAC := Lib.hid ((HAC.out.below hb).more hb.size)
        have HZ3 := Lib.hid (show OutsX X13.heap.size X13 u3 z3 from ho3.outs)
        obtain ⟨A9, d9, rfl⟩ := own_slice ho3.1
        have HM3 := Lib.hid (show os z3 = os z1 from hz3.trans (if_pos (of_decide_eq_true HIN.out)))
        have HN3 := Lib.hid (show z3.length ≤ 1000000 from by have h1 := congrArg List.length HM3.out; have := HZ6.out; simp at h1; omega)
        clear hz3 ho3
        clear hb
        go_wp2_with fail
        have C := rsame_any X13 HZ3.out HZ1.out (Nat.le_refl _) HN3.out HZ6.out
        rw [show decide (os z3 = os z1) = true from decide_eq_true HM3.out] at C
        refine C.mono ?_
        rintro e X14 ⟨rfl, hb⟩
        clear C
        replace c00 := kc hb c00
        replace c01 := kc hb c01
        replace HB := Lib.hid (chain HB.out hb)
        replace HZ1 := Lib.hid ((HZ1.out.below hb).more hb.size)
        replace HAC := Lib.hid ((HAC.out.below hb).more hb.size)
        replace HZ3 := Lib.hid ((HZ3.out.below hb).more hb.size)
        clear hb
        clear HZ3
        go_wp2_with fail
        have C := oof_any X14 (HLr.out _ HB.out) (Nat.le_refl _) HFr.out.len6 HFr.out.sm
        refine C.mono ?_
        rintro e X15 ⟨u5, z5, rfl, hz5, ho5, hb⟩
        clear C
        replace c00 := kc hb c00
        replace c01 := kc hb c01
        replace HB := Lib.hid (chain HB.out hb)
        replace HZ1 := Lib.hid ((HZ1.out.below hb).more hb.size)
        replace HAC := Lib.hid ((HAC.out.below hb).more hb.size)
        have HZ5 := Lib.hid (show OutsX X15.heap.size X15 u5 z5 from ho5.outs)
        obtain ⟨A6, d6, rfl⟩ := own_slice ho5.1
        have HM5 := Lib.hid hz5
        have HN5 := Lib.hid (show z5.length ≤ 1000000 from by have h1 := congrArg List.length hz5; have h2 := ofO_len (os r); have h3 := HFr.out.len6; simp at h1 h2; omega)
        have HN6 := Lib.hid (show acc.length ≤ 1000000 from by have h1 := congrArg List.length HAE.out; have h2 := ofO_len (os r); have h3 := HFr.out.len6; simp at h1 h2; omega)
        clear hz5 ho5
        clear hb
        go_wp2_with fail
        have C := rsame_any X15 HAC.out HZ5.out (Nat.le_refl _) HN6.out HN5.out
        rw [show decide (os acc = os z5) = true from decide_eq_true (HAE.out.trans HM5.out.symm)] at C
        refine C.mono ?_
        rintro e X16 ⟨rfl, hb⟩
        clear C
        replace c00 := kc hb c00
        replace c01 := kc hb c01
        replace HB := Lib.hid (chain HB.out hb)
        replace HZ1 := Lib.hid ((HZ1.out.below hb).more hb.size)
        replace HAC := Lib.hid ((HAC.out.below hb).more hb.size)
        replace HZ5 := Lib.hid ((HZ5.out.below hb).more hb.size)
        clear hb
        go_wp2
        go_ret
        exact ⟨rfl, HB.out⟩
  · skip
    obtain rfl : mo = 0 := HMO.out.1 rfl
    have hzm : zn = ln + 0 := by have := HMO.out; simp at this; omega
    have HZM := Lib.hid hzm
    clear hzm HMO
    go_wp2
    go_loopw [10, 11] (fun s i wr => ∃ (k : Nat) (j : Int) (acc : List OV) (AA : Option Addr) (na ca : Nat), k ≤ rn ∧ s = .slice AA na ca ∧ i = .int .i64 j ∧ Hid (j = (k : Int) - 1) ∧ -1 ≤ j ∧ j ≤ 150 ∧ Hid (OutsX wr.heap.size wr (.slice AA na ca) acc) ∧ Hid (os acc = ofO (os (r.drop k))) ∧ Below X9.heap.size X9 wr) (fun _ i _ => (intOf i + 1).toNat)
    case atStart => exact ⟨rn, (rn : Int) - 1, [], none, 0, 0, Nat.le_refl _, rfl, rfl, Lib.hid rfl, by omega, by omega, Lib.hid ⟨Rw.nil _ _, fun x hx => (by cases hx)⟩, Lib.hid (by rw [List.drop_of_length_le (by have := HNr.out; omega)]; rfl), Below.refl _ _⟩
    case round =>
      obtain ⟨k, j, acc, AA, na, ca, hk, rfl, rfl, HJ, hj1, hj2, hacc, HAE, hb⟩ := hrel
      have HX := Lib.hid hb
      have HAC := Lib.hid hacc.out
      clear hacc
      replace c00 := kc hb c00
      replace c01 := kc hb c01
      replace HB := Lib.hid (chain HB.out hb)
      replace HZ1 := Lib.hid ((HZ1.out.below hb).more hb.size)
      clear hb
      rcases Nat.eq_zero_or_pos k with hk0 | hkp
      rotate_left
      · skip
        obtain ⟨p, hp⟩ : ∃ p, p = k - 1 := ⟨_, rfl⟩
        obtain rfl : j = (p : Int) := by have := HJ.out; omega
        have HKP := Lib.hid (show k = p + 1 from by omega)
        have hpr : p < rn := by omega
        clear hp hkp hj1 hj2
        have hpx : p < r.length := by have := HNr.out; omega
        obtain ⟨b1, f1, rfl, hl1, p0, p1⟩ := row_at HDr.out p hpx
        have d1 := (HB.out.cell (p := ⟨b1, f1 + p * 2, none⟩) hl1).trans p0
        have d2 := (HB.out.cell (p := ⟨b1, f1 + p * 2 + 1, none⟩) hl1).trans p1
        have HO := HDr.out.2 r[p] (List.getElem_mem hpx)
        have HSX := HFr.out.sm r[p] (List.getElem_mem hpx)
        have HDR := Lib.hid (show os (r.drop p) = r[p].o :: os (r.drop (p + 1)) from by rw [List.drop_eq_getElem_cons hpx]; rfl)
        obtain ⟨x, hx⟩ : ∃ x, x = r[p] := ⟨_, rfl⟩
        rw [← hx] at d1 d2 HO HSX HDR
        clear hx p0 p1 hpx
        obtain ⟨xm, xr, xo⟩ := x
        obtain ⟨X1a, xn1, xc1, e1⟩ := HO.1.sl
        obtain ⟨X2a, xn2, xc2, e2⟩ := HO.2.sl
        dsimp only at e1 e2 d1 d2 HDR HSX
        subst e1 e2
        have HVx := Lib.hid (fun W (hW : Below w.heap.size w W) => (HO.below hW).more hW.size)
        have HSX := Lib.hid HSX
        clear HO
        have HAL := Lib.hid (show acc.length ≤ 1000000 from by
          have h1 := congrArg List.length HAE.out
          have h2 := ofO_len (os (r.drop k))
          have h3 := HFr.out.len
          simp at h1 h2; omega)
        have HAS := Lib.hid (show Srt (os acc) from by rw [HAE.out]; exact ofO_srt _)
        have HAM := Lib.hid (show SmO acc from fun x hx => by
          have h1 : x.o ∈ os acc := List.mem_map.2 ⟨x, hx, rfl⟩
          rw [HAE.out, ofO_mem] at h1
          obtain ⟨y, hy, e⟩ := List.mem_map.1 h1
          have := HFr.out.sm y (List.mem_of_mem_drop hy)
          rwa [e] at this)
        go_wp2_with fail
        have C := oput_any wr HAC.out (HVx.out _ HB.out).out (Nat.le_refl _) HAL.out HAM.out HSX.out.1 HSX.out.2 HAS.out
        refine C.mono ?_
        rintro e X17 ⟨u2, z2, rfl, hz2, ho2, hb⟩
        clear C
        replace c00 := kc hb c00
        replace c01 := kc hb c01
        replace HB := Lib.hid (chain HB.out hb)
        replace HZ1 := Lib.hid ((HZ1.out.below hb).more hb.size)
        replace HX := Lib.hid (chain HX.out hb)
        have HAC2 := Lib.hid (show OutsX X17.heap.size X17 u2 z2 from ho2.outs)
        obtain ⟨A8, d8, rfl⟩ := own_slice ho2.1
        have HAE2 := Lib.hid (show os z2 = ofO (os (r.drop p)) from by rw [hz2, HAE.out, HKP.out, ofO_cons, ← HDR.out])
        clear hz2 ho2 d1 d2
        clear hb
        go_wp2
        go_roundw
        case rel => exact ⟨p, (p : Int) - 1, z2, A8, _, d8, by omega, rfl, by go_num, Lib.hid rfl, by omega, by omega, HAC2, HAE2, HX.out⟩
        case measure => first | (simp [intOf]; done) | (simp [intOf]; omega)
      · skip
        subst hk0
        obtain rfl : j = -1 := by have := HJ.out; omega
        clear HJ hj1 hj2 HX
        replace HAE := Lib.hid (show os acc = ofO (os r) from HAE.out)
        go_wp2_with fail
        have C := rset_any wr HZ1.out (Nat.le_refl _) HZ6.out
        rw [E1.out] at C
        refine C.mono ?_
        rintro e X18 ⟨rfl, hb⟩
        clear C
        replace c00 := kc hb c00
        replace c01 := kc hb c01
        replace HB := Lib.hid (chain HB.out hb)
        replace HZ1 := Lib.hid ((HZ1.out.below hb).more hb.size)
        replace HAC := Lib.hid ((HAC.out.below hb).more hb.size)
        clear hb
        have hzq : ((zn : Int) == (ln : Int)) = true := by have := HZM.out; simp; omega
        go_wp2_with fail
        have C := ohas_any X18 HZ1.out (HVo.out _ HB.out).out (Nat.le_refl _) HZ6.out HS1.out
        rw [HIN.out] at C
        refine C.mono ?_
        rintro e X19 ⟨rfl, hb⟩
        replace hb := hb.1
        clear C
        replace c00 := kc hb c00
        replace c01 := kc hb c01
        replace HB := Lib.hid (chain HB.out hb)
        replace HZ1 := Lib.hid ((HZ1.out.below hb).more hb.size)
        replace HAC := Lib.hid ((HAC.out.below hb).more hb.size)
        clear hb
        go_wp2_with fail
        have C := oput_any X19 HZ1.out (HVo.out _ HB.out).out (Nat.le_refl _) HZ6.out HSM1.out (Nat.le_trans HFA.out.1 (by decide)) (Nat.le_trans HFA.out.2 (by decide)) HS1.out
        refine C.mono ?_
        rintro e X20 ⟨u3, z3, rfl, hz3, ho3, hb⟩
        clear C
        replace c00 := kc hb c00
        replace c01 := kc hb c01
        replace HB := Lib.hid (chain HB.out hb)
        replace HZ1 := Lib.hid ((HZ1.out.below hb).more hb.size)
        replace HAC := Lib.hid ((HAC.out.below hb).more hb.size)
        have HZ3 := Lib.hid (show OutsX X20.heap.size X20 u3 z3 from ho3.outs)
        obtain ⟨A9, d9, rfl⟩ := own_slice ho3.1
        have HM3 := Lib.hid (show os z3 = os z1 from hz3.trans (if_pos (of_decide_eq_true HIN.out)))
        have HN3 := Lib.hid (show z3.length ≤ 1000000 from by have h1 := congrArg List.length HM3.out; have := HZ6.out; simp at h1; omega)
        clear hz3 ho3
        clear hb
        go_wp2_with fail
        have C := rsame_any X20 HZ3.out HZ1.out (Nat.le_refl _) HN3.out HZ6.out
        rw [show decide (os z3 = os z1) = true from decide_eq_true HM3.out] at C
        refine C.mono ?_
        rintro e X21 ⟨rfl, hb⟩
        clear C
        replace c00 := kc hb c00
        replace c01 := kc hb c01
        replace HB := Lib.hid (chain HB.out hb)
        replace HZ1 := Lib.hid ((HZ1.out.below hb).more hb.size)
        replace HAC := Lib.hid ((HAC.out.below hb).more hb.size)
        replace HZ3 := Lib.hid ((HZ3.out.below hb).more hb.size)
        clear hb
        clear HZ3
        go_wp2_with fail
        have C := oof_any X21 (HLr.out _ HB.out) (Nat.le_refl _) HFr.out.len6 HFr.out.sm
        refine C.mono ?_
        rintro e X22 ⟨u5, z5, rfl, hz5, ho5, hb⟩
        clear C
        replace c00 := kc hb c00
        replace c01 := kc hb c01
        replace HB := Lib.hid (chain HB.out hb)
        replace HZ1 := Lib.hid ((HZ1.out.below hb).more hb.size)
        replace HAC := Lib.hid ((HAC.out.below hb).more hb.size)
        have HZ5 := Lib.hid (show OutsX X22.heap.size X22 u5 z5 from ho5.outs)
        obtain ⟨A6, d6, rfl⟩ := own_slice ho5.1
        have HM5 := Lib.hid hz5
        have HN5 := Lib.hid (show z5.length ≤ 1000000 from by have h1 := congrArg List.length hz5; have h2 := ofO_len (os r); have h3 := HFr.out.len6; simp at h1 h2; omega)
        have HN6 := Lib.hid (show acc.length ≤ 1000000 from by have h1 := congrArg List.length HAE.out; have h2 := ofO_len (os r); have h3 := HFr.out.len6; simp at h1 h2; omega)
        clear hz5 ho5
        clear hb
        go_wp2_with fail
        have C := rsame_any X22 HAC.out HZ5.out (Nat.le_refl _) HN6.out HN5.out
        rw [show decide (os acc = os z5) = true from decide_eq_true (HAE.out.trans HM5.out.symm)] at C
        refine C.mono ?_
        rintro e X23 ⟨rfl, hb⟩
        clear C
        replace c00 := kc hb c00
        replace c01 := kc hb c01
        replace HB := Lib.hid (chain HB.out hb)
        replace HZ1 := Lib.hid ((HZ1.out.below hb).more hb.size)
        replace HAC := Lib.hid ((HAC.out.below hb).more hb.size)
        replace HZ5 := Lib.hid ((HZ5.out.below hb).more hb.size)
        clear hb
        go_wp2
        go_ret
        exact ⟨rfl, HB.out⟩
end Go.Proofs.Ytodpajnpnobfmaa
