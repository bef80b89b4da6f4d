/-
  OutsTells: the law's own walk.
-/
import Derived.Test.YtodpajnpnobfmaaWtk
import Derived.Test.YtodpajnpnobfmaaOtV
namespace Go.Proofs.Ytodpajnpnobfmaa
open Go.RowKit
set_option linter.unusedVariables false
set_option linter.unusedSimpArgs false
open OtM
set_option maxHeartbeats 8000000 in
set_option maxRecDepth 100000 in
theorem outstells_any (w : World) {a : OV} (ha : OvOk w.heap.size w a) {b : OV} (hb : OvOk w.heap.size w b) {vl : Value} {l : List OV} (hl : OutsX w.heap.size w vl l) {vm : Value} {m : List OV} (hm : OutsX w.heap.size w vm m) : Calls Try.prog 3 #[.agg #[a.m, a.r], .agg #[b.m, b.r], vl, vm] w fun e w' => e = .returned (.bool true) ∧ Below w.heap.size w w' := by
  obtain ⟨am, ar, ao⟩ := a
  obtain ⟨A1, an1, ac1, ea1⟩ := ha.1.sl
  obtain ⟨A2, an2, ac2, ea2⟩ := ha.2.sl
  dsimp only at ea1 ea2 ⊢
  subst ea1 ea2
  have HVa := Lib.hid (fun W (hW : Below w.heap.size w W) => (ha.below hW).more hW.size)
  clear ha
  obtain ⟨bm, br, bo⟩ := b
  obtain ⟨B1, bn1, bc1, eb1⟩ := hb.1.sl
  obtain ⟨B2, bn2, bc2, eb2⟩ := hb.2.sl
  dsimp only at eb1 eb2 ⊢
  subst eb1 eb2
  have HVb := Lib.hid (fun W (hW : Below w.heap.size w W) => (hb.below hW).more hW.size)
  clear hb
  have HLl := Lib.hid (fun W (hW : Below w.heap.size w W) => (hl.below hW).more hW.size)
  have HDl := Lib.hid hl
  obtain ⟨L1, lc1, rfl⟩ : ∃ A c, vl = .slice A l.length c := by obtain ⟨⟨A, c, rfl, -⟩, -⟩ := hl; exact ⟨_, _, rfl⟩
  clear hl
  obtain ⟨ln, hln⟩ : ∃ n, n = l.length := ⟨_, rfl⟩
  have HNl := Lib.hid hln
  rw [← hln] at HLl HDl ⊢
  clear hln
  have HLm := Lib.hid (fun W (hW : Below w.heap.size w W) => (hm.below hW).more hW.size)
  have HDm := Lib.hid hm
  obtain ⟨M1, mc1, rfl⟩ : ∃ A c, vm = .slice A m.length c := by obtain ⟨⟨A, c, rfl, -⟩, -⟩ := hm; exact ⟨_, _, rfl⟩
  clear hm
  obtain ⟨mn, hmn⟩ : ∃ n, n = m.length := ⟨_, rfl⟩
  have HNm := Lib.hid hmn
  rw [← hmn] at HLm HDm ⊢
  clear hmn
  obtain ⟨W0, hW0⟩ : ∃ W, W = w.alloc (.cells #[.slice A1 an1 ac1, .slice A2 an2 ac2] 24) := ⟨_, rfl⟩
  obtain ⟨g0, hg0⟩ : ∃ g, g = w.heap.size := ⟨_, rfl⟩
  have hb0 : Below w.heap.size w W0 := by rw [hW0]; exact below_al (Below.refl _ _) _
  obtain ⟨c00, c01⟩ : W0.cell? ⟨g0, 0, none⟩ = some (.slice A1 an1 ac1) ∧ W0.cell? ⟨g0, 1, none⟩ = some (.slice A2 an2 ac2) := by rw [hW0, hg0]; exact box2 (w := w) _ _ _
  obtain ⟨W1, hW1⟩ : ∃ W, W = W0.alloc (.cells #[.slice B1 bn1 bc1, .slice B2 bn2 bc2] 24) := ⟨_, rfl⟩
  obtain ⟨g1, hg1⟩ : ∃ g, g = W0.heap.size := ⟨_, rfl⟩
  have hb1 : Below W0.heap.size W0 W1 := by rw [hW1]; exact below_al (Below.refl _ _) _
  obtain ⟨c10, c11⟩ : W1.cell? ⟨g1, 0, none⟩ = some (.slice B1 bn1 bc1) ∧ W1.cell? ⟨g1, 1, none⟩ = some (.slice B2 bn2 bc2) := by rw [hW1, hg1]; exact box2 (w := W0) _ _ _
  replace c00 := kc hb1 c00
  replace c01 := kc hb1 c01
  have HB := Lib.hid (chain (hb0) hb1)
  have hs1 : g1 = w.heap.size + 1 := by rw [hg1, hW0, World.size_alloc, ← hg0, hg0]
  have HS0 := Lib.hid hg0
  have HS1 := Lib.hid hs1
  have HCH := Lib.hid (show W1 = ((w.alloc (.cells #[.slice A1 an1 ac1, .slice A2 an2 ac2] 24)).alloc (.cells #[.slice B1 bn1 bc1, .slice B2 bn2 bc2] 24)) from by rw [hW1, hW0])
  clear hW0 hg0 hb0 hW1 hg1 hb1 hs1
  go_enter Try.func3, Try.ntmps3
  go_upto_region 1 with fail
  rw [← HCH.out, ← HS1.out, ← HS0.out]
  clear HCH HS0 HS1
  go_wp2_with fail
  have C := head15_any W1
  refine C.mono ?_
  rintro e X1 ⟨rfl, hb⟩
  clear C
  replace c00 := kc hb c00
  replace c01 := kc hb c01
  replace c10 := kc hb c10
  replace c11 := kc hb c11
  replace HB := Lib.hid (chain HB.out hb)
  clear hb
  go_wp2_with fail
  have C := big_any X1 (HLl.out _ HB.out) (Nat.le_refl _)
  refine C.mono ?_
  rintro e X2 ⟨bb, rfl, hf, hb⟩
  clear C
  replace c00 := kc hb c00
  replace c01 := kc hb c01
  replace c10 := kc hb c10
  replace c11 := kc hb c11
  replace HB := Lib.hid (chain HB.out hb)
  have HFl := Lib.hid hf
  clear hf
  clear hb
  cases bb
  rotate_left
  · skip
    go_wp2
    go_ret
    exact ⟨rfl, HB.out⟩
  replace HFl := Lib.hid (HFl.out rfl)
  go_wp2_with fail
  have C := big_any X2 (HLm.out _ HB.out) (Nat.le_refl _)
  refine C.mono ?_
  rintro e X3 ⟨bb, rfl, hf, hb⟩
  clear C
  replace c00 := kc hb c00
  replace c01 := kc hb c01
  replace c10 := kc hb c10
  replace c11 := kc hb c11
  replace HB := Lib.hid (chain HB.out hb)
  have HFm := Lib.hid hf
  clear hf
  clear hb
  cases bb
  rotate_left
  · skip
    go_wp2
    go_ret
    exact ⟨rfl, HB.out⟩
  replace HFm := Lib.hid (HFm.out rfl)
  obtain ⟨X4, hX⟩ : ∃ X, X = X3.alloc (.cells #[.slice A1 an1 ac1, .slice A2 an2 ac2, .slice B1 bn1 bc1, .slice B2 bn2 bc2] 24) := ⟨_, rfl⟩
  obtain ⟨gX4, hg⟩ : ∃ g, g = X3.heap.size := ⟨_, rfl⟩
  have hb : Below X3.heap.size X3 X4 := by rw [hX]; exact below_al (Below.refl _ _) _
  have HR := Lib.hid (show OutsX X4.heap.size X4 (.slice (some ⟨gX4, 0, none⟩) 2 2) [⟨.slice A1 an1 ac1, .slice A2 an2 ac2, ao⟩, ⟨.slice B1 bn1 bc1, .slice B2 bn2 bc2, bo⟩] from by rw [hX, hg]; exact lit_outs X3 [⟨.slice A1 an1 ac1, .slice A2 an2 ac2, ao⟩, ⟨.slice B1 bn1 bc1, .slice B2 bn2 bc2, bo⟩] rfl (by intro x hx; simp only [List.mem_cons, List.not_mem_nil, or_false] at hx; rcases hx with rfl | rfl; exact (HVa.out _ HB.out); exact (HVb.out _ HB.out)))
  go_wp2_with fail
  rw [← hX]
  (try rw [← hg])
  have hq := kc hb c00; clear c00; have c00 := hq; clear hq
  have hq := kc hb c01; clear c01; have c01 := hq; clear hq
  have hq := kc hb c10; clear c10; have c10 := hq; clear hq
  have hq := kc hb c11; clear c11; have c11 := hq; clear hq
  replace HB := Lib.hid (chain HB.out hb)
  clear hX hg hb
  go_wp2_with fail
  have C := big_any X4 HR.out (Nat.le_refl _)
  refine C.mono ?_
  rintro e X5 ⟨bb, rfl, hf, hb⟩
  clear C
  replace c00 := kc hb c00
  replace c01 := kc hb c01
  replace c10 := kc hb c10
  replace c11 := kc hb c11
  replace HB := Lib.hid (chain HB.out hb)
  replace HR := Lib.hid ((HR.out.below hb).more hb.size)
  have HFo := Lib.hid hf
  clear hf
  clear hb
  cases bb
  rotate_left
  · skip
    go_wp2
    go_ret
    exact ⟨rfl, HB.out⟩
  replace HFo := Lib.hid (HFo.out rfl)
  clear HR
  have HFA := Lib.hid ((HFo.out.each _ (List.mem_cons_self ..)))
  obtain ⟨x1, hx1⟩ : ∃ x, x = decide (Lt ao bo) := ⟨_, rfl⟩
  obtain ⟨x2, hx2⟩ : ∃ x, x = srtB (os l) := ⟨_, rfl⟩
  have HX1 := Lib.hid hx1.symm
  have HX2 := Lib.hid hx2.symm
  clear hx1 hx2
  go_upto_region 4 with fail
  replace HB := Lib.hid (Below.drw HB.out)
  refine wp_region_held_drew (S := (fun w' => (w'.cell? ⟨g0, 0, none⟩ = some (.slice A1 an1 ac1) ∧ w'.cell? ⟨g0, 1, none⟩ = some (.slice A2 an2 ac2) ∧ w'.cell? ⟨g1, 0, none⟩ = some (.slice B1 bn1 bc1) ∧ w'.cell? ⟨g1, 1, none⟩ = some (.slice B2 bn2 bc2)) ∧ Below w.heap.size w w')) (by kernel_rfl) ⟨⟨c00, c01, c10, c11⟩, HB.out⟩ (fun hHeld => ?_)
  (try dsimp only at hHeld)
  generalize X5.drew = X6 at hHeld HB ⊢
  refine wtk 0 ?_ ?_ ?_
  rotate_left
  · intro w hSw; (try dsimp only at hSw); go_simp; (try with_reducible rfl)
  (try simp only [Act.put, pt8])
  refine wtk 1 ?_ ?_ ?_
  rotate_left
  · intro w hSw; (try dsimp only at hSw); go_simp; (try with_reducible rfl)
  (try simp only [Act.put, pt8])
  refine wtk 3 ?_ ?_ ?_
  rotate_left
  · intro w hSw; (try dsimp only at hSw); go_simp; (try with_reducible rfl)
  (try simp only [Act.put, pt8])
  refine wtk 4 ?_ ?_ ?_
  rotate_left
  · intro w hSw; (try dsimp only at hSw); go_simp; (try with_reducible rfl)
  (try simp only [Act.put, pt8])
  refine wpAnyH_ready (rs := [2]) (by kernel_rfl) (by simp) ?_
  refine AllReadyH.cons rfl (fun K hK => ?_) AllReadyH.nil
  go_simp
  have C := oless_any X6 (HVa.out _ HB.out).out (HVb.out _ HB.out).out (Nat.le_refl _)
  rw [HX1.out] at C
  refine C.mono ?_
  rintro e X7 ⟨rfl, hb⟩
  replace hb := hb.1
  clear C
  replace HB := Lib.hid (chain HB.out hb)
  refine hK.out _ _ ⟨⟨kc hb hHeld.1.1, kc hb hHeld.1.2.1, kc hb hHeld.1.2.2.1, kc hb hHeld.1.2.2.2⟩, HB.out⟩ (fun hHeld => ?_)
  clear hb
  clear hK K
  (try simp only [Act.put, pt8])
  refine wpAnyH_ready (rs := [5]) (by kernel_rfl) (by simp) ?_
  refine AllReadyH.cons rfl (fun K hK => ?_) AllReadyH.nil
  go_simp
  have C := rless_any X7 (HVa.out _ HB.out).out (HVb.out _ HB.out).out (Nat.le_refl _)
  rw [HX1.out] at C
  refine C.mono ?_
  rintro e X8 ⟨rfl, hb⟩
  clear C
  replace HB := Lib.hid (chain HB.out hb)
  refine hK.out _ _ ⟨⟨kc hb hHeld.1.1, kc hb hHeld.1.2.1, kc hb hHeld.1.2.2.1, kc hb hHeld.1.2.2.2⟩, HB.out⟩ (fun hHeld => ?_)
  clear hb
  clear hK K
  (try simp only [Act.put, pt8])
  refine wtk 6 ?_ ?_ ?_
  rotate_left
  · intro w hSw; (try dsimp only at hSw); go_simp; (try with_reducible rfl)
  (try simp only [Act.put, pt8])
  refine wtk 7 ?_ ?_ ?_
  rotate_left
  · intro w hSw; (try dsimp only at hSw); go_simp; (try with_reducible rfl)
  (try simp only [Act.put, pt8])
  refine wtk 8 ?_ ?_ ?_
  rotate_left
  · intro w hSw; (try dsimp only at hSw); go_simp; (try with_reducible rfl)
  (try simp only [Act.put, pt8])
  refine wtk 10 ?_ ?_ ?_
  rotate_left
  · intro w hSw; (try dsimp only at hSw); go_simp; (try with_reducible rfl)
  (try simp only [Act.put, pt8])
  refine wpAnyH_ready (rs := [9]) (by kernel_rfl) (by simp) ?_
  refine AllReadyH.cons rfl (fun K hK => ?_) AllReadyH.nil
  go_simp
  have C := oset_any X8 (HLl.out _ HB.out) (Nat.le_refl _) HFl.out.len6
  rw [HX2.out] at C
  refine C.mono ?_
  rintro e X9 ⟨rfl, hb⟩
  replace hb := hb.1
  clear C
  replace HB := Lib.hid (chain HB.out hb)
  refine hK.out _ _ ⟨⟨kc hb hHeld.1.1, kc hb hHeld.1.2.1, kc hb hHeld.1.2.2.1, kc hb hHeld.1.2.2.2⟩, HB.out⟩ (fun hHeld => ?_)
  clear hb
  clear hK K
  (try simp only [Act.put, pt8])
  refine wpAnyH_ready (rs := [11]) (by kernel_rfl) (by simp) ?_
  refine AllReadyH.cons rfl (fun K hK => ?_) AllReadyH.nil
  go_simp
  have C := rset_any X9 (HLl.out _ HB.out) (Nat.le_refl _) HFl.out.len6
  rw [HX2.out] at C
  refine C.mono ?_
  rintro e X10 ⟨rfl, hb⟩
  clear C
  replace HB := Lib.hid (chain HB.out hb)
  refine hK.out _ _ ⟨⟨kc hb hHeld.1.1, kc hb hHeld.1.2.1, kc hb hHeld.1.2.2.1, kc hb hHeld.1.2.2.2⟩, HB.out⟩ (fun hHeld => ?_)
  clear hb
  clear hK K
  (try simp only [Act.put, pt8])
  refine wtk 12 ?_ ?_ ?_
  rotate_left
  · intro w hSw; (try dsimp only at hSw); go_simp; (try with_reducible rfl)
  (try simp only [Act.put, pt8])
  refine wtk 13 ?_ ?_ ?_
  rotate_left
  · intro w hSw; (try dsimp only at hSw); go_simp; (try with_reducible rfl)
  (try simp only [Act.put, pt8])
  refine wtk 14 ?_ ?_ ?_
  rotate_left
  · intro w hSw; (try dsimp only at hSw); go_simp; (try with_reducible rfl)
  (try simp only [Act.put, pt8])
  refine wtk 15 ?_ ?_ ?_
  rotate_left
  · intro w hSw; (try dsimp only at hSw); go_simp; (try with_reducible rfl)
  (try simp only [Act.put, pt8])
  refine wtk 17 ?_ ?_ ?_
  rotate_left
  · intro w hSw; (try dsimp only at hSw); go_simp; (try with_reducible rfl)
  (try simp only [Act.put, pt8])
  refine wpAnyH_ready (rs := [16]) (by kernel_rfl) (by simp) ?_
  refine AllReadyH.cons rfl (fun K hK => ?_) AllReadyH.nil
  go_simp
  have C := oof_any X10 (HLl.out _ HB.out) (Nat.le_refl _) HFl.out.len6 HFl.out.sm
  refine C.mono ?_
  rintro e X11 ⟨u1, z1, rfl, hz1, ho1, hb⟩
  clear C
  replace HB := Lib.hid (chain HB.out hb)
  have HZ1 := Lib.hid (show OutsX X11.heap.size X11 u1 z1 from ho1.outs)
  obtain ⟨A7, d7, rfl⟩ := own_slice ho1.1
  have HM1 := Lib.hid hz1
  have HN1 := Lib.hid (show z1.length ≤ 1000000 from by have h1 := congrArg List.length hz1; have h2 := ofO_len (os l); have h3 := HFl.out.len6; simp at h1 h2; omega)
  clear hz1 ho1
  refine hK.out _ _ ⟨⟨kc hb hHeld.1.1, kc hb hHeld.1.2.1, kc hb hHeld.1.2.2.1, kc hb hHeld.1.2.2.2⟩, HB.out⟩ (fun hHeld => ?_)
  clear hb
  clear hK K
  (try simp only [Act.put, pt8])
  refine wpAnyH_ready (rs := [18]) (by kernel_rfl) (by simp) ?_
  refine AllReadyH.cons rfl (fun K hK => ?_) AllReadyH.nil
  go_simp
  have C := rof_any X11 (HLl.out _ HB.out) (Nat.le_refl _) HFl.out.len6
  refine C.mono ?_
  rintro e X12 ⟨u2, z2, rfl, ho2, hz2, hb⟩
  clear C
  replace HZ1 := Lib.hid ((HZ1.out.below hb).more hb.size)
  replace HB := Lib.hid (chain HB.out hb)
  have HZ2 := Lib.hid ho2
  obtain ⟨A8, n8, d8, rfl⟩ : ∃ A n c, u2 = .slice A n c := by obtain ⟨⟨A, c, rfl, -⟩, -⟩ := ho2; exact ⟨_, _, _, rfl⟩
  have HM2 := Lib.hid hz2
  have HN2 := Lib.hid (show z2.length ≤ 1000000 from by have h1 := congrArg List.length hz2; have h2 := ofO_len (os l); have h3 := HFl.out.len6; simp at h1 h2; omega)
  clear hz2 ho2
  refine hK.out _ _ ⟨⟨kc hb hHeld.1.1, kc hb hHeld.1.2.1, kc hb hHeld.1.2.2.1, kc hb hHeld.1.2.2.2⟩, HB.out⟩ (fun hHeld => ?_)
  clear hb
  clear hK K
  (try simp only [Act.put, pt8])
  refine wpAnyH_ready (rs := [19]) (by kernel_rfl) (by simp) ?_
  refine AllReadyH.cons rfl (fun K hK => ?_) AllReadyH.nil
  go_simp
  have C := rsame_any X12 HZ1.out HZ2.out (Nat.le_refl _) HN1.out HN2.out
  rw [show decide (os z1 = os z2) = true from decide_eq_true (HM1.out.trans HM2.out.symm)] at C
  refine C.mono ?_
  rintro e X13 ⟨rfl, hb⟩
  clear C
  replace HZ1 := Lib.hid ((HZ1.out.below hb).more hb.size)
  replace HB := Lib.hid (chain HB.out hb)
  refine hK.out _ _ ⟨⟨kc hb hHeld.1.1, kc hb hHeld.1.2.1, kc hb hHeld.1.2.2.1, kc hb hHeld.1.2.2.2⟩, HB.out⟩ (fun hHeld => ?_)
  clear hb
  clear hK K
  (try simp only [Act.put, pt8])
  refine wtk 20 ?_ ?_ ?_
  rotate_left
  · intro w hSw; (try dsimp only at hSw); go_simp; (try with_reducible rfl)
  (try simp only [Act.put, pt8])
  refine wtk 21 ?_ ?_ ?_
  rotate_left
  · intro w hSw; (try dsimp only at hSw); go_simp; (try with_reducible rfl)
  (try simp only [Act.put, pt8])
  refine wpAnyH_done (by kernel_rfl) ?_ _
  have HBF := Lib.hid HB.out
  have d00 := hHeld.1.1
  have d01 := hHeld.1.2.1
  have d10 := hHeld.1.2.2.1
  have d11 := hHeld.1.2.2.2
  clear hHeld
  clear c00 c01 c10 c11 HZ1 HZ2 HM1 HM2 HN1 HN2 HB HX1
  have c00 := d00
  clear d00
  have c01 := d01
  clear d01
  have c10 := d10
  clear d10
  have c11 := d11
  clear d11
  have HB := Lib.hid HBF.out
  clear HBF
  by_cases hs : Srt (os l)
  rotate_left
  · skip
    have e1 := Lib.hid (show srtB (os l) = false from decide_eq_false hs)
    clear hs
    go_wp2_with fail
    have C := rset_any X13 (HLl.out _ HB.out) (Nat.le_refl _) HFl.out.len6
    rw [e1.out] at C
    refine C.mono ?_
    rintro e X14 ⟨rfl, hb⟩
    clear C
    replace c00 := kc hb c00
    replace c01 := kc hb c01
    replace c10 := kc hb c10
    replace c11 := kc hb c11
    replace HB := Lib.hid (chain HB.out hb)
    clear hb
    go_wp2
    go_ret
    exact ⟨rfl, HB.out⟩
  have HSl := Lib.hid hs
  have El := Lib.hid (show srtB (os l) = true from decide_eq_true hs)
  clear hs
  go_wp2_with fail
  have C := rset_any X13 (HLl.out _ HB.out) (Nat.le_refl _) HFl.out.len6
  rw [El.out] at C
  refine C.mono ?_
  rintro e X15 ⟨rfl, hb⟩
  clear C
  replace c00 := kc hb c00
  replace c01 := kc hb c01
  replace c10 := kc hb c10
  replace c11 := kc hb c11
  replace HB := Lib.hid (chain HB.out hb)
  clear hb
  by_cases hs : Srt (os m)
  rotate_left
  · skip
    have e1 := Lib.hid (show srtB (os m) = false from decide_eq_false hs)
    clear hs
    go_wp2_with fail
    have C := rset_any X15 (HLm.out _ HB.out) (Nat.le_refl _) HFm.out.len6
    rw [e1.out] at C
    refine C.mono ?_
    rintro e X16 ⟨rfl, hb⟩
    clear C
    replace c00 := kc hb c00
    replace c01 := kc hb c01
    replace c10 := kc hb c10
    replace c11 := kc hb c11
    replace HB := Lib.hid (chain HB.out hb)
    clear hb
    go_wp2
    go_ret
    exact ⟨rfl, HB.out⟩
  have HSm := Lib.hid hs
  have Em := Lib.hid (show srtB (os m) = true from decide_eq_true hs)
  clear hs
  go_wp2_with fail
  have C := rset_any X15 (HLm.out _ HB.out) (Nat.le_refl _) HFm.out.len6
  rw [Em.out] at C
  refine C.mono ?_
  rintro e X17 ⟨rfl, hb⟩
  clear C
  replace c00 := kc hb c00
  replace c01 := kc hb c01
  replace c10 := kc hb c10
  replace c11 := kc hb c11
  replace HB := Lib.hid (chain HB.out hb)
  clear hb
  obtain ⟨x3, hx3⟩ : ∃ x, x = decide (ao ∈ os l) := ⟨_, rfl⟩
  have HX3 := Lib.hid hx3.symm
  clear hx3
  go_upto_region 8 with fail
  replace HB := Lib.hid (Below.drw HB.out)
  refine wp_region_held_drew (S := (fun w' => (w'.cell? ⟨g0, 0, none⟩ = some (.slice A1 an1 ac1) ∧ w'.cell? ⟨g0, 1, none⟩ = some (.slice A2 an2 ac2) ∧ w'.cell? ⟨g1, 0, none⟩ = some (.slice B1 bn1 bc1) ∧ w'.cell? ⟨g1, 1, none⟩ = some (.slice B2 bn2 bc2)) ∧ Below w.heap.size w w')) (by kernel_rfl) ⟨⟨c00, c01, c10, c11⟩, HB.out⟩ (fun hHeld => ?_)
  (try dsimp only at hHeld)
  generalize X17.drew = X18 at hHeld HB ⊢
  refine wtk 0 ?_ ?_ ?_
  rotate_left
  · intro w hSw; (try dsimp only at hSw); go_simp; (try with_reducible rfl)
  (try simp only [Act.put, pt8])
  refine wtk 1 ?_ ?_ ?_
  rotate_left
  · intro w hSw; (try dsimp only at hSw); go_simp; (try with_reducible rfl)
  (try simp only [Act.put, pt8])
  refine wtk 2 ?_ ?_ ?_
  rotate_left
  · intro w hSw; (try dsimp only at hSw); go_simp; (try with_reducible rfl)
  (try simp only [Act.put, pt8])
  refine wtk 3 ?_ ?_ ?_
  rotate_left
  · intro w hSw; (try dsimp only at hSw); go_simp; (try with_reducible rfl)
  (try simp only [Act.put, pt8])
  refine wtk 5 ?_ ?_ ?_
  rotate_left
  · intro w hSw; (try dsimp only at hSw); go_simp; (try with_reducible rfl)
  (try simp only [Act.put, pt8])
  refine wtk 6 ?_ ?_ ?_
  rotate_left
  · intro w hSw; (try dsimp only at hSw); go_simp; (try with_reducible rfl)
  (try simp only [Act.put, pt8])
  refine wpAnyH_ready (rs := [4]) (by kernel_rfl) (by simp) ?_
  refine AllReadyH.cons rfl (fun K hK => ?_) AllReadyH.nil
  go_simp
  have C := oput_any X18 (HLl.out _ HB.out) (HVa.out _ HB.out).out (Nat.le_refl _) HFl.out.len6 HFl.out.sm (Nat.le_trans HFA.out.1 (by decide)) (Nat.le_trans HFA.out.2 (by decide)) HSl.out
  refine C.mono ?_
  rintro e X19 ⟨u3, z3, rfl, hz3, ho3, hb⟩
  clear C
  replace HB := Lib.hid (chain HB.out hb)
  have HZ3 := Lib.hid (show OutsX X19.heap.size X19 u3 z3 from ho3.outs)
  obtain ⟨A7, d7, rfl⟩ := own_slice ho3.1
  have HM3 := Lib.hid hz3
  have HN3 := Lib.hid (show z3.length ≤ 1000000 from by have h1 := congrArg List.length hz3; rw [putO_len] at h1; have h3 := HFl.out.len; simp at h1; split at h1 <;> omega)
  clear hz3 ho3
  refine hK.out _ _ ⟨⟨kc hb hHeld.1.1, kc hb hHeld.1.2.1, kc hb hHeld.1.2.2.1, kc hb hHeld.1.2.2.2⟩, HB.out⟩ (fun hHeld => ?_)
  clear hb
  clear hK K
  (try simp only [Act.put, pt8])
  refine wpAnyH_ready (rs := [7]) (by kernel_rfl) (by simp) ?_
  refine AllReadyH.cons rfl (fun K hK => ?_) AllReadyH.nil
  go_simp
  have C := rput_any X19 (HLl.out _ HB.out) (HVa.out _ HB.out).out (Nat.le_refl _) HFl.out.len6
  refine C.mono ?_
  rintro e X20 ⟨u4, z4, k4, rfl, hk4, hz4⟩
  have hb := hk4.below
  clear C
  replace HZ3 := Lib.hid ((HZ3.out.below hb).more hb.size)
  replace HB := Lib.hid (chain HB.out hb)
  have HZ4 := Lib.hid (hk4.outs (Nat.le_refl _) hk4.below.size)
  obtain ⟨A8, d8, rfl⟩ := own_slice hk4.own
  have HM4 := Lib.hid (show os z4 = putO (os l) ao from hz4.trans (rput_eq HSl.out ao))
  have HN4 := Lib.hid (show z4.length ≤ 1000000 from by have h1 := congrArg List.length HM4.out; rw [putO_len] at h1; have h3 := HFl.out.len; simp at h1; split at h1 <;> omega)
  clear hz4 hk4
  refine hK.out _ _ ⟨⟨kc hb hHeld.1.1, kc hb hHeld.1.2.1, kc hb hHeld.1.2.2.1, kc hb hHeld.1.2.2.2⟩, HB.out⟩ (fun hHeld => ?_)
  clear hb
  clear hK K
  (try simp only [Act.put, pt8])
  refine wpAnyH_ready (rs := [8]) (by kernel_rfl) (by simp) ?_
  refine AllReadyH.cons rfl (fun K hK => ?_) AllReadyH.nil
  go_simp
  have C := rsame_any X20 HZ3.out HZ4.out (Nat.le_refl _) HN3.out HN4.out
  rw [show decide (os z3 = os z4) = true from decide_eq_true (HM3.out.trans HM4.out.symm)] at C
  refine C.mono ?_
  rintro e X21 ⟨rfl, hb⟩
  clear C
  replace HZ3 := Lib.hid ((HZ3.out.below hb).more hb.size)
  replace HZ4 := Lib.hid ((HZ4.out.below hb).more hb.size)
  replace HB := Lib.hid (chain HB.out hb)
  refine hK.out _ _ ⟨⟨kc hb hHeld.1.1, kc hb hHeld.1.2.1, kc hb hHeld.1.2.2.1, kc hb hHeld.1.2.2.2⟩, HB.out⟩ (fun hHeld => ?_)
  clear hb
  clear hK K
  (try simp only [Act.put, pt8])
  refine wtk 9 ?_ ?_ ?_
  rotate_left
  · intro w hSw; (try dsimp only at hSw); go_simp; (try with_reducible rfl)
  (try simp only [Act.put, pt8])
  refine wtk 10 ?_ ?_ ?_
  rotate_left
  · intro w hSw; (try dsimp only at hSw); go_simp; (try with_reducible rfl)
  (try simp only [Act.put, pt8])
  refine wtk 11 ?_ ?_ ?_
  rotate_left
  · intro w hSw; (try dsimp only at hSw); go_simp; (try with_reducible rfl)
  (try simp only [Act.put, pt8])
  refine wtk 12 ?_ ?_ ?_
  rotate_left
  · intro w hSw; (try dsimp only at hSw); go_simp; (try with_reducible rfl)
  (try simp only [Act.put, pt8])
  refine wtk 14 ?_ ?_ ?_
  rotate_left
  · intro w hSw; (try dsimp only at hSw); go_simp; (try with_reducible rfl)
  (try simp only [Act.put, pt8])
  refine wtk 15 ?_ ?_ ?_
  rotate_left
  · intro w hSw; (try dsimp only at hSw); go_simp; (try with_reducible rfl)
  (try simp only [Act.put, pt8])
  refine wpAnyH_ready (rs := [13]) (by kernel_rfl) (by simp) ?_
  refine AllReadyH.cons rfl (fun K hK => ?_) AllReadyH.nil
  go_simp
  have C := ohas_any X21 (HLl.out _ HB.out) (HVa.out _ HB.out).out (Nat.le_refl _) HFl.out.len6 HSl.out
  rw [HX3.out] at C
  refine C.mono ?_
  rintro e X22 ⟨rfl, hb⟩
  replace hb := hb.1
  clear C
  replace HB := Lib.hid (chain HB.out hb)
  refine hK.out _ _ ⟨⟨kc hb hHeld.1.1, kc hb hHeld.1.2.1, kc hb hHeld.1.2.2.1, kc hb hHeld.1.2.2.2⟩, HB.out⟩ (fun hHeld => ?_)
  clear hb
  clear hK K
  (try simp only [Act.put, pt8])
  refine wpAnyH_ready (rs := [16]) (by kernel_rfl) (by simp) ?_
  refine AllReadyH.cons rfl (fun K hK => ?_) AllReadyH.nil
  go_simp
  have C := rhas_any X22 (HLl.out _ HB.out) (HVa.out _ HB.out).out (Nat.le_refl _) HFl.out.len6
  rw [HX3.out] at C
  refine C.mono ?_
  rintro e X23 ⟨rfl, hb⟩
  clear C
  replace HB := Lib.hid (chain HB.out hb)
  refine hK.out _ _ ⟨⟨kc hb hHeld.1.1, kc hb hHeld.1.2.1, kc hb hHeld.1.2.2.1, kc hb hHeld.1.2.2.2⟩, HB.out⟩ (fun hHeld => ?_)
  clear hb
  clear hK K
  (try simp only [Act.put, pt8])
  refine wtk 17 ?_ ?_ ?_
  rotate_left
  · intro w hSw; (try dsimp only at hSw); go_simp; (try with_reducible rfl)
  (try simp only [Act.put, pt8])
  refine wtk 18 ?_ ?_ ?_
  rotate_left
  · intro w hSw; (try dsimp only at hSw); go_simp; (try with_reducible rfl)
  (try simp only [Act.put, pt8])
  refine wtk 19 ?_ ?_ ?_
  rotate_left
  · intro w hSw; (try dsimp only at hSw); go_simp; (try with_reducible rfl)
  (try simp only [Act.put, pt8])
  refine wtk 20 ?_ ?_ ?_
  rotate_left
  · intro w hSw; (try dsimp only at hSw); go_simp; (try with_reducible rfl)
  (try simp only [Act.put, pt8])
  refine wtk 21 ?_ ?_ ?_
  rotate_left
  · intro w hSw; (try dsimp only at hSw); go_simp; (try with_reducible rfl)
  (try simp only [Act.put, pt8])
  refine wtk 23 ?_ ?_ ?_
  rotate_left
  · intro w hSw; (try dsimp only at hSw); go_simp; (try with_reducible rfl)
  (try simp only [Act.put, pt8])
  refine wtk 24 ?_ ?_ ?_
  rotate_left
  · intro w hSw; (try dsimp only at hSw); go_simp; (try with_reducible rfl)
  (try simp only [Act.put, pt8])
  refine wpAnyH_ready (rs := [22]) (by kernel_rfl) (by simp) ?_
  refine AllReadyH.cons rfl (fun K hK => ?_) AllReadyH.nil
  go_simp
  have C := ominus_any X23 (HLl.out _ HB.out) (HLm.out _ HB.out) (Nat.le_refl _) HFl.out.len6 HFl.out.sm HFm.out.len6 HSm.out
  refine C.mono ?_
  rintro e X24 ⟨u5, z5, rfl, hz5, ho5, hb⟩
  clear C
  replace HB := Lib.hid (chain HB.out hb)
  have HZ5 := Lib.hid (show OutsX X24.heap.size X24 u5 z5 from ho5.outs)
  obtain ⟨A9, d9, rfl⟩ := own_slice ho5.1
  have HM5 := Lib.hid hz5
  have HN5 := Lib.hid (show z5.length ≤ 1000000 from by have h1 := congrArg List.length hz5; have h2 := minO_len (os l) (os m); have h3 := HFl.out.len6; simp at h1 h2; omega)
  clear hz5 ho5
  refine hK.out _ _ ⟨⟨kc hb hHeld.1.1, kc hb hHeld.1.2.1, kc hb hHeld.1.2.2.1, kc hb hHeld.1.2.2.2⟩, HB.out⟩ (fun hHeld => ?_)
  clear hb
  clear hK K
  (try simp only [Act.put, pt8])
  refine wpAnyH_ready (rs := [25]) (by kernel_rfl) (by simp) ?_
  refine AllReadyH.cons rfl (fun K hK => ?_) AllReadyH.nil
  go_simp
  have C := rminus_any X24 (HLl.out _ HB.out) (HLm.out _ HB.out) (Nat.le_refl _) HFl.out.len6 HFm.out.len6
  refine C.mono ?_
  rintro e X25 ⟨u6, k6, rfl, hk6⟩
  have hb := hk6.below
  clear C
  replace HZ5 := Lib.hid ((HZ5.out.below hb).more hb.size)
  replace HB := Lib.hid (chain HB.out hb)
  have HZ6 := Lib.hid (hk6.outs (Nat.le_refl _) hk6.below.size)
  obtain ⟨A6, d6, rfl⟩ := own_slice hk6.own
  have HN6 := Lib.hid (show (l.filter (kp m)).length ≤ 1000000 from Nat.le_trans (List.length_filter_le _ _) HFl.out.len6)
  clear hk6
  refine hK.out _ _ ⟨⟨kc hb hHeld.1.1, kc hb hHeld.1.2.1, kc hb hHeld.1.2.2.1, kc hb hHeld.1.2.2.2⟩, HB.out⟩ (fun hHeld => ?_)
  clear hb
  clear hK K
  (try simp only [Act.put, pt8])
  refine wpAnyH_ready (rs := [26]) (by kernel_rfl) (by simp) ?_
  refine AllReadyH.cons rfl (fun K hK => ?_) AllReadyH.nil
  go_simp
  have C := rsame_any X25 HZ5.out HZ6.out (Nat.le_refl _) HN5.out HN6.out
  rw [show decide (os z5 = os (l.filter (kp m))) = true from decide_eq_true (HM5.out.trans (os_filter l m).symm)] at C
  refine C.mono ?_
  rintro e X26 ⟨rfl, hb⟩
  clear C
  replace HZ5 := Lib.hid ((HZ5.out.below hb).more hb.size)
  replace HZ6 := Lib.hid ((HZ6.out.below hb).more hb.size)
  replace HB := Lib.hid (chain HB.out hb)
  refine hK.out _ _ ⟨⟨kc hb hHeld.1.1, kc hb hHeld.1.2.1, kc hb hHeld.1.2.2.1, kc hb hHeld.1.2.2.2⟩, HB.out⟩ (fun hHeld => ?_)
  clear hb
  clear hK K
  (try simp only [Act.put, pt8])
  refine wtk 27 ?_ ?_ ?_
  rotate_left
  · intro w hSw; (try dsimp only at hSw); go_simp; (try with_reducible rfl)
  (try simp only [Act.put, pt8])
  refine wpAnyH_ready (rs := [28]) (by kernel_rfl) (by simp) ?_
  refine AllReadyH.cons rfl (fun K hK => ?_) AllReadyH.nil
  go_simp
  refine hK.out _ _ hHeld (fun hHeld => ?_)
  clear hK K
  (try simp only [Act.put, pt8])
  refine wpAnyH_done (by kernel_rfl) ?_ _
  clear hHeld
  go_wp2
  go_ret
  exact ⟨rfl, HB.out⟩
end Go.Proofs.Ytodpajnpnobfmaa
