/-
  OutsOrder: the law's own walk.
-/
import Derived.Test.YtodpajnpnobfmaaOtV
namespace Go.Proofs.Ytodpajnpnobfmaa
open Go.RowKit
set_option linter.unusedVariables false
set_option linter.unusedSimpArgs false
open OtM
set_option maxHeartbeats 8000000 in
set_option maxRecDepth 100000 in
theorem outsorder_any (w : World) {a : OV} (ha : OvOk w.heap.size w a) {b : OV} (hb : OvOk w.heap.size w b) {c : OV} (hc : OvOk w.heap.size w c) : Calls Try.prog 4 #[.agg #[a.m, a.r], .agg #[b.m, b.r], .agg #[c.m, c.r]] w fun e w' => e = .returned (.bool true) ∧ Below w.heap.size w w' := by
  obtain ⟨am, ar, ao⟩ := a
  obtain ⟨A1, an1, ac1, ea1⟩ := ha.1.sl
  obtain ⟨A2, an2, ac2, ea2⟩ := ha.2.sl
  dsimp only at ea1 ea2 ⊢
  subst ea1 ea2
  have HVa := Lib.hid (fun W (hW : Below w.heap.size w W) => (ha.below hW).more hW.size)
  clear ha
  obtain ⟨bm, br, bo⟩ := b
  obtain ⟨B1, bn1, bc1, eb1⟩ := hb.1.sl
  obtain ⟨B2, bn2, bc2, eb2⟩ := hb.2.sl
  dsimp only at eb1 eb2 ⊢
  subst eb1 eb2
  have HVb := Lib.hid (fun W (hW : Below w.heap.size w W) => (hb.below hW).more hW.size)
  clear hb
  obtain ⟨cm, cr, co⟩ := c
  obtain ⟨C1, cn1, cc1, ec1⟩ := hc.1.sl
  obtain ⟨C2, cn2, cc2, ec2⟩ := hc.2.sl
  dsimp only at ec1 ec2 ⊢
  subst ec1 ec2
  have HVc := Lib.hid (fun W (hW : Below w.heap.size w W) => (hc.below hW).more hW.size)
  clear hc
  obtain ⟨W0, hW0⟩ : ∃ W, W = w.alloc (.cells #[.slice A1 an1 ac1, .slice A2 an2 ac2] 24) := ⟨_, rfl⟩
  obtain ⟨g0, hg0⟩ : ∃ g, g = w.heap.size := ⟨_, rfl⟩
  have hb0 : Below w.heap.size w W0 := by rw [hW0]; exact below_al (Below.refl _ _) _
  obtain ⟨c00, c01⟩ : W0.cell? ⟨g0, 0, none⟩ = some (.slice A1 an1 ac1) ∧ W0.cell? ⟨g0, 1, none⟩ = some (.slice A2 an2 ac2) := by rw [hW0, hg0]; exact box2 (w := w) _ _ _
  obtain ⟨W1, hW1⟩ : ∃ W, W = W0.alloc (.cells #[.slice B1 bn1 bc1, .slice B2 bn2 bc2] 24) := ⟨_, rfl⟩
  obtain ⟨g1, hg1⟩ : ∃ g, g = W0.heap.size := ⟨_, rfl⟩
  have hb1 : Below W0.heap.size W0 W1 := by rw [hW1]; exact below_al (Below.refl _ _) _
  obtain ⟨c10, c11⟩ : W1.cell? ⟨g1, 0, none⟩ = some (.slice B1 bn1 bc1) ∧ W1.cell? ⟨g1, 1, none⟩ = some (.slice B2 bn2 bc2) := by rw [hW1, hg1]; exact box2 (w := W0) _ _ _
  replace c00 := kc hb1 c00
  replace c01 := kc hb1 c01
  obtain ⟨W2, hW2⟩ : ∃ W, W = W1.alloc (.cells #[.slice C1 cn1 cc1, .slice C2 cn2 cc2] 24) := ⟨_, rfl⟩
  obtain ⟨g2, hg2⟩ : ∃ g, g = W1.heap.size := ⟨_, rfl⟩
  have hb2 : Below W1.heap.size W1 W2 := by rw [hW2]; exact below_al (Below.refl _ _) _
  obtain ⟨c20, c21⟩ : W2.cell? ⟨g2, 0, none⟩ = some (.slice C1 cn1 cc1) ∧ W2.cell? ⟨g2, 1, none⟩ = some (.slice C2 cn2 cc2) := by rw [hW2, hg2]; exact box2 (w := W1) _ _ _
  replace c00 := kc hb2 c00
  replace c01 := kc hb2 c01
  replace c10 := kc hb2 c10
  replace c11 := kc hb2 c11
  have HB := Lib.hid (chain (chain (hb0) hb1) hb2)
  have hs1 : g1 = w.heap.size + 1 := by rw [hg1, hW0, World.size_alloc, ← hg0, hg0]
  have hs2 : g2 = w.heap.size + 1 + 1 := by rw [hg2, hW1, World.size_alloc, ← hg1, hs1]
  have HS0 := Lib.hid hg0
  have HS1 := Lib.hid hs1
  have HS2 := Lib.hid hs2
  have HCH := Lib.hid (show W2 = (((w.alloc (.cells #[.slice A1 an1 ac1, .slice A2 an2 ac2] 24)).alloc (.cells #[.slice B1 bn1 bc1, .slice B2 bn2 bc2] 24)).alloc (.cells #[.slice C1 cn1 cc1, .slice C2 cn2 cc2] 24)) from by rw [hW2, hW1, hW0])
  clear hW0 hg0 hb0 hW1 hg1 hb1 hW2 hg2 hb2 hs1 hs2
  go_enter Try.func4, Try.ntmps4
  go_upto_region 1 with fail
  rw [← HCH.out, ← HS2.out, ← HS1.out, ← HS0.out]
  clear HCH HS0 HS1 HS2
  go_wp2_with fail
  have C := head15_any W2
  refine C.mono ?_
  rintro e X1 ⟨rfl, hb⟩
  clear C
  replace c00 := kc hb c00
  replace c01 := kc hb c01
  replace c10 := kc hb c10
  replace c11 := kc hb c11
  replace c20 := kc hb c20
  replace c21 := kc hb c21
  replace HB := Lib.hid (chain HB.out hb)
  clear hb
  obtain ⟨X2, hX⟩ : ∃ X, X = X1.alloc (.cells #[.slice A1 an1 ac1, .slice A2 an2 ac2, .slice B1 bn1 bc1, .slice B2 bn2 bc2, .slice C1 cn1 cc1, .slice C2 cn2 cc2] 24) := ⟨_, rfl⟩
  obtain ⟨gX2, hg⟩ : ∃ g, g = X1.heap.size := ⟨_, rfl⟩
  have hb : Below X1.heap.size X1 X2 := by rw [hX]; exact below_al (Below.refl _ _) _
  have HR := Lib.hid (show OutsX X2.heap.size X2 (.slice (some ⟨gX2, 0, none⟩) 3 3) [⟨.slice A1 an1 ac1, .slice A2 an2 ac2, ao⟩, ⟨.slice B1 bn1 bc1, .slice B2 bn2 bc2, bo⟩, ⟨.slice C1 cn1 cc1, .slice C2 cn2 cc2, co⟩] from by rw [hX, hg]; exact lit_outs X1 [⟨.slice A1 an1 ac1, .slice A2 an2 ac2, ao⟩, ⟨.slice B1 bn1 bc1, .slice B2 bn2 bc2, bo⟩, ⟨.slice C1 cn1 cc1, .slice C2 cn2 cc2, co⟩] rfl (by intro x hx; simp only [List.mem_cons, List.not_mem_nil, or_false] at hx; rcases hx with rfl | rfl | rfl; exact (HVa.out _ HB.out); exact (HVb.out _ HB.out); exact (HVc.out _ HB.out)))
  go_wp2_with fail
  rw [← hX]
  (try rw [← hg])
  have hq := kc hb c00; clear c00; have c00 := hq; clear hq
  have hq := kc hb c01; clear c01; have c01 := hq; clear hq
  have hq := kc hb c10; clear c10; have c10 := hq; clear hq
  have hq := kc hb c11; clear c11; have c11 := hq; clear hq
  have hq := kc hb c20; clear c20; have c20 := hq; clear hq
  have hq := kc hb c21; clear c21; have c21 := hq; clear hq
  replace HB := Lib.hid (chain HB.out hb)
  clear hX hg hb
  go_wp2_with fail
  have C := big_any X2 HR.out (Nat.le_refl _)
  refine C.mono ?_
  rintro e X3 ⟨bb, rfl, -, hb⟩
  clear C
  replace c00 := kc hb c00
  replace c01 := kc hb c01
  replace c10 := kc hb c10
  replace c11 := kc hb c11
  replace c20 := kc hb c20
  replace c21 := kc hb c21
  replace HB := Lib.hid (chain HB.out hb)
  replace HR := Lib.hid ((HR.out.below hb).more hb.size)
  clear hb
  clear HR
  cases bb
  rotate_left
  · skip
    go_wp2
    go_ret
    exact ⟨rfl, HB.out⟩
  rcases tri ao bo with hlt | heq | hgt
  · skip
    have e1 := Lib.hid (show decide (Lt ao bo) = true from decide_eq_true hlt)
    have e2 := Lib.hid (show decide (Lt bo ao) = false from decide_eq_false hlt.asymm)
    have e3 := Lib.hid (show decide (ao = bo) = false from decide_eq_false hlt.ne)
    have HLT := Lib.hid hlt
    clear hlt
    go_wp2_with fail
    have C := oless_any X3 (HVa.out _ HB.out).out (HVb.out _ HB.out).out (Nat.le_refl _)
    rw [e1.out] at C
    refine C.mono ?_
    rintro e X4 ⟨rfl, hb⟩
    replace hb := hb.1
    clear C
    replace c00 := kc hb c00
    replace c01 := kc hb c01
    replace c10 := kc hb c10
    replace c11 := kc hb c11
    replace c20 := kc hb c20
    replace c21 := kc hb c21
    replace HB := Lib.hid (chain HB.out hb)
    clear hb
    go_wp2_with fail
    have C := oless_any X4 (HVb.out _ HB.out).out (HVa.out _ HB.out).out (Nat.le_refl _)
    rw [e2.out] at C
    refine C.mono ?_
    rintro e X5 ⟨rfl, hb⟩
    replace hb := hb.1
    clear C
    replace c00 := kc hb c00
    replace c01 := kc hb c01
    replace c10 := kc hb c10
    replace c11 := kc hb c11
    replace c20 := kc hb c20
    replace c21 := kc hb c21
    replace HB := Lib.hid (chain HB.out hb)
    clear hb
    go_wp2_with fail
    have C := rsout_any X5 (HVa.out _ HB.out).out (HVb.out _ HB.out).out (Nat.le_refl _)
    rw [e3.out] at C
    refine C.mono ?_
    rintro e X6 ⟨rfl, hb⟩
    clear C
    replace c00 := kc hb c00
    replace c01 := kc hb c01
    replace c10 := kc hb c10
    replace c11 := kc hb c11
    replace c20 := kc hb c20
    replace c21 := kc hb c21
    replace HB := Lib.hid (chain HB.out hb)
    clear hb
    by_cases hbc : Lt bo co
    · skip
      have e4 := Lib.hid (show decide (Lt bo co) = true from decide_eq_true hbc)
      have e5 := Lib.hid (show decide (Lt ao co) = true from decide_eq_true (HLT.out.trans hbc))
      clear hbc
      go_wp2_with fail
      have C := oless_any X6 (HVb.out _ HB.out).out (HVc.out _ HB.out).out (Nat.le_refl _)
      rw [e4.out] at C
      refine C.mono ?_
      rintro e X7 ⟨rfl, hb⟩
      replace hb := hb.1
      clear C
      replace c00 := kc hb c00
      replace c01 := kc hb c01
      replace c10 := kc hb c10
      replace c11 := kc hb c11
      replace c20 := kc hb c20
      replace c21 := kc hb c21
      replace HB := Lib.hid (chain HB.out hb)
      clear hb
      go_wp2_with fail
      have C := oless_any X7 (HVa.out _ HB.out).out (HVc.out _ HB.out).out (Nat.le_refl _)
      rw [e5.out] at C
      refine C.mono ?_
      rintro e X8 ⟨rfl, hb⟩
      replace hb := hb.1
      clear C
      replace c00 := kc hb c00
      replace c01 := kc hb c01
      replace c10 := kc hb c10
      replace c11 := kc hb c11
      replace c20 := kc hb c20
      replace c21 := kc hb c21
      replace HB := Lib.hid (chain HB.out hb)
      clear hb
      go_wp2
      go_ret
      exact ⟨rfl, HB.out⟩
    · skip
      have e4 := Lib.hid (show decide (Lt bo co) = false from decide_eq_false hbc)
      clear hbc
      go_wp2_with fail
      have C := oless_any X6 (HVb.out _ HB.out).out (HVc.out _ HB.out).out (Nat.le_refl _)
      rw [e4.out] at C
      refine C.mono ?_
      rintro e X9 ⟨rfl, hb⟩
      replace hb := hb.1
      clear C
      replace c00 := kc hb c00
      replace c01 := kc hb c01
      replace c10 := kc hb c10
      replace c11 := kc hb c11
      replace c20 := kc hb c20
      replace c21 := kc hb c21
      replace HB := Lib.hid (chain HB.out hb)
      clear hb
      go_wp2
      go_ret
      exact ⟨rfl, HB.out⟩
  · skip
    have e1 := Lib.hid (show decide (Lt ao bo) = false from decide_eq_false (by rw [heq]; exact Lt.irrefl _))
    have e2 := Lib.hid (show decide (Lt bo ao) = false from decide_eq_false (by rw [heq]; exact Lt.irrefl _))
    have e3 := Lib.hid (show decide (ao = bo) = true from decide_eq_true heq)
    clear heq
    go_wp2_with fail
    have C := oless_any X3 (HVa.out _ HB.out).out (HVb.out _ HB.out).out (Nat.le_refl _)
    rw [e1.out] at C
    refine C.mono ?_
    rintro e X10 ⟨rfl, hb⟩
    replace hb := hb.1
    clear C
    replace c00 := kc hb c00
    replace c01 := kc hb c01
    replace c10 := kc hb c10
    replace c11 := kc hb c11
    replace c20 := kc hb c20
    replace c21 := kc hb c21
    replace HB := Lib.hid (chain HB.out hb)
    clear hb
    go_wp2_with fail
    have C := oless_any X10 (HVb.out _ HB.out).out (HVa.out _ HB.out).out (Nat.le_refl _)
    rw [e2.out] at C
    refine C.mono ?_
    rintro e X11 ⟨rfl, hb⟩
    replace hb := hb.1
    clear C
    replace c00 := kc hb c00
    replace c01 := kc hb c01
    replace c10 := kc hb c10
    replace c11 := kc hb c11
    replace c20 := kc hb c20
    replace c21 := kc hb c21
    replace HB := Lib.hid (chain HB.out hb)
    clear hb
    go_wp2_with fail
    have C := rsout_any X11 (HVa.out _ HB.out).out (HVb.out _ HB.out).out (Nat.le_refl _)
    rw [e3.out] at C
    refine C.mono ?_
    rintro e X12 ⟨rfl, hb⟩
    clear C
    replace c00 := kc hb c00
    replace c01 := kc hb c01
    replace c10 := kc hb c10
    replace c11 := kc hb c11
    replace c20 := kc hb c20
    replace c21 := kc hb c21
    replace HB := Lib.hid (chain HB.out hb)
    clear hb
    go_wp2
    go_ret
    exact ⟨rfl, HB.out⟩
  · skip
    have e1 := Lib.hid (show decide (Lt ao bo) = false from decide_eq_false hgt.asymm)
    have e2 := Lib.hid (show decide (Lt bo ao) = true from decide_eq_true hgt)
    have e3 := Lib.hid (show decide (ao = bo) = false from decide_eq_false (fun e => hgt.ne e.symm))
    clear hgt
    go_wp2_with fail
    have C := oless_any X3 (HVa.out _ HB.out).out (HVb.out _ HB.out).out (Nat.le_refl _)
    rw [e1.out] at C
    refine C.mono ?_
    rintro e X13 ⟨rfl, hb⟩
    replace hb := hb.1
    clear C
    replace c00 := kc hb c00
    replace c01 := kc hb c01
    replace c10 := kc hb c10
    replace c11 := kc hb c11
    replace c20 := kc hb c20
    replace c21 := kc hb c21
    replace HB := Lib.hid (chain HB.out hb)
    clear hb
    go_wp2_with fail
    have C := oless_any X13 (HVb.out _ HB.out).out (HVa.out _ HB.out).out (Nat.le_refl _)
    rw [e2.out] at C
    refine C.mono ?_
    rintro e X14 ⟨rfl, hb⟩
    replace hb := hb.1
    clear C
    replace c00 := kc hb c00
    replace c01 := kc hb c01
    replace c10 := kc hb c10
    replace c11 := kc hb c11
    replace c20 := kc hb c20
    replace c21 := kc hb c21
    replace HB := Lib.hid (chain HB.out hb)
    clear hb
    go_wp2_with fail
    have C := rsout_any X14 (HVa.out _ HB.out).out (HVb.out _ HB.out).out (Nat.le_refl _)
    rw [e3.out] at C
    refine C.mono ?_
    rintro e X15 ⟨rfl, hb⟩
    clear C
    replace c00 := kc hb c00
    replace c01 := kc hb c01
    replace c10 := kc hb c10
    replace c11 := kc hb c11
    replace c20 := kc hb c20
    replace c21 := kc hb c21
    replace HB := Lib.hid (chain HB.out hb)
    clear hb
    go_wp2
    go_ret
    exact ⟨rfl, HB.out⟩
end Go.Proofs.Ytodpajnpnobfmaa
