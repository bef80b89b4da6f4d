/-
  OutsMinus: the law's own walk.
-/
import Derived.Test.YtodpajnpnobfmaaWtk
import Derived.Test.YtodpajnpnobfmaaOtV
namespace Go.Proofs.Ytodpajnpnobfmaa
open Go.RowKit
set_option linter.unusedVariables false
set_option linter.unusedSimpArgs false
open OtM
set_option maxHeartbeats 8000000 in
set_option maxRecDepth 100000 in
theorem outsminus_any (w : World) {vl : Value} {l : List OV} (hl : OutsX w.heap.size w vl l) {vm : Value} {m : List OV} (hm : OutsX w.heap.size w vm m) {o : OV} (ho : OvOk w.heap.size w o) : Calls Try.prog 7 #[vl, vm, .agg #[o.m, o.r]] w fun e w' => e = .returned (.bool true) ∧ Below w.heap.size w w' := by
  have HLl := Lib.hid (fun W (hW : Below w.heap.size w W) => (hl.below hW).more hW.size)
  have HDl := Lib.hid hl
  obtain ⟨L1, lc1, rfl⟩ : ∃ A c, vl = .slice A l.length c := by obtain ⟨⟨A, c, rfl, -⟩, -⟩ := hl; exact ⟨_, _, rfl⟩
  clear hl
  obtain ⟨ln, hln⟩ : ∃ n, n = l.length := ⟨_, rfl⟩
  have HNl := Lib.hid hln
  rw [← hln] at HLl HDl ⊢
  clear hln
  have HLm := Lib.hid (fun W (hW : Below w.heap.size w W) => (hm.below hW).more hW.size)
  have HDm := Lib.hid hm
  obtain ⟨M1, mc1, rfl⟩ : ∃ A c, vm = .slice A m.length c := by obtain ⟨⟨A, c, rfl, -⟩, -⟩ := hm; exact ⟨_, _, rfl⟩
  clear hm
  obtain ⟨mn, hmn⟩ : ∃ n, n = m.length := ⟨_, rfl⟩
  have HNm := Lib.hid hmn
  rw [← hmn] at HLm HDm ⊢
  clear hmn
  obtain ⟨om, or, oo⟩ := o
  obtain ⟨O1, on1, oc1, eo1⟩ := ho.1.sl
  obtain ⟨O2, on2, oc2, eo2⟩ := ho.2.sl
  dsimp only at eo1 eo2 ⊢
  subst eo1 eo2
  have HVo := Lib.hid (fun W (hW : Below w.heap.size w W) => (ho.below hW).more hW.size)
  clear ho
  obtain ⟨W0, hW0⟩ : ∃ W, W = w.alloc (.cells #[.slice O1 on1 oc1, .slice O2 on2 oc2] 24) := ⟨_, rfl⟩
  obtain ⟨g0, hg0⟩ : ∃ g, g = w.heap.size := ⟨_, rfl⟩
  have hb0 : Below w.heap.size w W0 := by rw [hW0]; exact below_al (Below.refl _ _) _
  obtain ⟨c00, c01⟩ : W0.cell? ⟨g0, 0, none⟩ = some (.slice O1 on1 oc1) ∧ W0.cell? ⟨g0, 1, none⟩ = some (.slice O2 on2 oc2) := by rw [hW0, hg0]; exact box2 (w := w) _ _ _
  have HB := Lib.hid (hb0)
  have HS0 := Lib.hid hg0
  have HCH := Lib.hid (show W0 = (w.alloc (.cells #[.slice O1 on1 oc1, .slice O2 on2 oc2] 24)) from by rw [hW0])
  clear hW0 hg0 hb0
  go_enter Try.func7, Try.ntmps7
  go_upto_region 1 with fail
  rw [← HCH.out, ← HS0.out]
  clear HCH HS0
  go_wp2_with fail
  have C := head15_any W0
  refine C.mono ?_
  rintro e X1 ⟨rfl, hb⟩
  clear C
  replace c00 := kc hb c00
  replace c01 := kc hb c01
  replace HB := Lib.hid (chain HB.out hb)
  clear hb
  go_wp2_with fail
  have C := big_any X1 (HLl.out _ HB.out) (Nat.le_refl _)
  refine C.mono ?_
  rintro e X2 ⟨bb, rfl, hf, hb⟩
  clear C
  replace c00 := kc hb c00
  replace c01 := kc hb c01
  replace HB := Lib.hid (chain HB.out hb)
  have HFl := Lib.hid hf
  clear hf
  clear hb
  cases bb
  rotate_left
  · skip
    go_wp2
    go_ret
    exact ⟨rfl, HB.out⟩
  replace HFl := Lib.hid (HFl.out rfl)
  go_wp2_with fail
  have C := big_any X2 (HLm.out _ HB.out) (Nat.le_refl _)
  refine C.mono ?_
  rintro e X3 ⟨bb, rfl, hf, hb⟩
  clear C
  replace c00 := kc hb c00
  replace c01 := kc hb c01
  replace HB := Lib.hid (chain HB.out hb)
  have HFm := Lib.hid hf
  clear hf
  clear hb
  cases bb
  rotate_left
  · skip
    go_wp2
    go_ret
    exact ⟨rfl, HB.out⟩
  replace HFm := Lib.hid (HFm.out rfl)
  obtain ⟨X4, hX⟩ : ∃ X, X = X3.alloc (.cells #[.slice O1 on1 oc1, .slice O2 on2 oc2] 24) := ⟨_, rfl⟩
  obtain ⟨gX4, hg⟩ : ∃ g, g = X3.heap.size := ⟨_, rfl⟩
  have hb : Below X3.heap.size X3 X4 := by rw [hX]; exact below_al (Below.refl _ _) _
  have HR := Lib.hid (show OutsX X4.heap.size X4 (.slice (some ⟨gX4, 0, none⟩) 1 1) [⟨.slice O1 on1 oc1, .slice O2 on2 oc2, oo⟩] from by rw [hX, hg]; exact lit_outs X3 [⟨.slice O1 on1 oc1, .slice O2 on2 oc2, oo⟩] rfl (by intro x hx; simp only [List.mem_cons, List.not_mem_nil, or_false] at hx; subst hx; exact (HVo.out _ HB.out)))
  go_wp2_with fail
  rw [← hX]
  (try rw [← hg])
  have hq := kc hb c00; clear c00; have c00 := hq; clear hq
  have hq := kc hb c01; clear c01; have c01 := hq; clear hq
  replace HB := Lib.hid (chain HB.out hb)
  clear hX hg hb
  go_wp2_with fail
  have C := big_any X4 HR.out (Nat.le_refl _)
  refine C.mono ?_
  rintro e X5 ⟨bb, rfl, hf, hb⟩
  clear C
  replace c00 := kc hb c00
  replace c01 := kc hb c01
  replace HB := Lib.hid (chain HB.out hb)
  replace HR := Lib.hid ((HR.out.below hb).more hb.size)
  have HFo := Lib.hid hf
  clear hf
  clear hb
  cases bb
  rotate_left
  · skip
    go_wp2
    go_ret
    exact ⟨rfl, HB.out⟩
  replace HFo := Lib.hid (HFo.out rfl)
  clear HR
  by_cases hs : Srt (os l)
  rotate_left
  · skip
    have e1 := Lib.hid (show srtB (os l) = false from decide_eq_false hs)
    clear hs
    go_wp2_with fail
    have C := rset_any X5 (HLl.out _ HB.out) (Nat.le_refl _) HFl.out.len6
    rw [e1.out] at C
    refine C.mono ?_
    rintro e X6 ⟨rfl, hb⟩
    clear C
    replace c00 := kc hb c00
    replace c01 := kc hb c01
    replace HB := Lib.hid (chain HB.out hb)
    clear hb
    go_wp2
    go_ret
    exact ⟨rfl, HB.out⟩
  have HSl := Lib.hid hs
  have El := Lib.hid (show srtB (os l) = true from decide_eq_true hs)
  clear hs
  go_wp2_with fail
  have C := rset_any X5 (HLl.out _ HB.out) (Nat.le_refl _) HFl.out.len6
  rw [El.out] at C
  refine C.mono ?_
  rintro e X7 ⟨rfl, hb⟩
  clear C
  replace c00 := kc hb c00
  replace c01 := kc hb c01
  replace HB := Lib.hid (chain HB.out hb)
  clear hb
  by_cases hs : Srt (os m)
  rotate_left
  · skip
    have e1 := Lib.hid (show srtB (os m) = false from decide_eq_false hs)
    clear hs
    go_wp2_with fail
    have C := rset_any X7 (HLm.out _ HB.out) (Nat.le_refl _) HFm.out.len6
    rw [e1.out] at C
    refine C.mono ?_
    rintro e X8 ⟨rfl, hb⟩
    clear C
    replace c00 := kc hb c00
    replace c01 := kc hb c01
    replace HB := Lib.hid (chain HB.out hb)
    clear hb
    go_wp2
    go_ret
    exact ⟨rfl, HB.out⟩
  have HSm := Lib.hid hs
  have Em := Lib.hid (show srtB (os m) = true from decide_eq_true hs)
  clear hs
  go_wp2_with fail
  have C := rset_any X7 (HLm.out _ HB.out) (Nat.le_refl _) HFm.out.len6
  rw [Em.out] at C
  refine C.mono ?_
  rintro e X9 ⟨rfl, hb⟩
  clear C
  replace c00 := kc hb c00
  replace c01 := kc hb c01
  replace HB := Lib.hid (chain HB.out hb)
  clear hb
  go_wp2_with fail
  have C := ominus_any X9 (HLl.out _ HB.out) (HLm.out _ HB.out) (Nat.le_refl _) HFl.out.len6 HFl.out.sm HFm.out.len6 HSm.out
  refine C.mono ?_
  rintro e X10 ⟨u1, z1, rfl, hz1, ho1, hb⟩
  clear C
  replace c00 := kc hb c00
  replace c01 := kc hb c01
  replace HB := Lib.hid (chain HB.out hb)
  have HZ1 := Lib.hid (show OutsX X10.heap.size X10 u1 z1 from ho1.outs)
  obtain ⟨A1, d1, rfl⟩ := own_slice ho1.1
  have HM1 := Lib.hid hz1
  have HN1 := Lib.hid (show z1.length ≤ 1000000 from by have h1 := congrArg List.length hz1; have h2 := minO_len (os l) (os m); have h3 := HFl.out.len6; simp at h1 h2; omega)
  have HS1 := Lib.hid (show Srt (os z1) from by rw [hz1]; exact minO_srt HSl.out _)
  have E1 := Lib.hid (show srtB (os z1) = true from decide_eq_true HS1.out)
  clear hz1 ho1
  clear hb
  by_cases hp : oo ∈ os l
  · skip
    by_cases hq : oo ∈ os m
    · skip
      have EP := Lib.hid (show decide (oo ∈ os l) = true from decide_eq_true hp)
      have EQ := Lib.hid (show decide (oo ∈ os m) = true from decide_eq_true hq)
      have ED := Lib.hid (show decide (oo ∈ os z1) = false from decide_eq_false (by rw [HM1.out, minO_mem]; exact fun h => h.2 hq))
      clear hp hq
      go_upto_region 5 with fail
      replace HZ1 := Lib.hid (OutsX.drw HZ1.out)
      replace HB := Lib.hid (Below.drw HB.out)
      refine wp_region_held_drew (S := (fun w' => (w'.cell? ⟨g0, 0, none⟩ = some (.slice O1 on1 oc1) ∧ w'.cell? ⟨g0, 1, none⟩ = some (.slice O2 on2 oc2)) ∧ Below w.heap.size w w')) (by kernel_rfl) ⟨⟨c00, c01⟩, HB.out⟩ (fun hHeld => ?_)
      (try dsimp only at hHeld)
      generalize X10.drew = X11 at hHeld HB HZ1 ⊢
      refine wtk 0 ?_ ?_ ?_
      rotate_left
      · intro w hSw; (try dsimp only at hSw); go_simp; (try with_reducible rfl)
      (try simp only [Act.put, pt8])
      refine wtk 1 ?_ ?_ ?_
      rotate_left
      · intro w hSw; (try dsimp only at hSw); go_simp; (try with_reducible rfl)
      (try simp only [Act.put, pt8])
      refine wtk 2 ?_ ?_ ?_
      rotate_left
      · intro w hSw; (try dsimp only at hSw); go_simp; (try with_reducible rfl)
      (try simp only [Act.put, pt8])
      refine wpAnyH_ready (rs := [3]) (by kernel_rfl) (by simp) ?_
      refine AllReadyH.cons rfl (fun K hK => ?_) AllReadyH.nil
      go_simp
      have C := rset_any X11 HZ1.out (Nat.le_refl _) HN1.out
      rw [E1.out] at C
      refine C.mono ?_
      rintro e X12 ⟨rfl, hb⟩
      clear C
      replace HZ1 := Lib.hid ((HZ1.out.below hb).more hb.size)
      replace HB := Lib.hid (chain HB.out hb)
      refine hK.out _ _ ⟨⟨kc hb hHeld.1.1, kc hb hHeld.1.2⟩, HB.out⟩ (fun hHeld => ?_)
      clear hb
      clear hK K
      (try simp only [Act.put, pt8])
      refine wtk 4 ?_ ?_ ?_
      rotate_left
      · intro w hSw; (try dsimp only at hSw); go_simp; (try with_reducible rfl)
      (try simp only [Act.put, pt8])
      refine wtk 5 ?_ ?_ ?_
      rotate_left
      · intro w hSw; (try dsimp only at hSw); go_simp; (try with_reducible rfl)
      (try simp only [Act.put, pt8])
      refine wtk 6 ?_ ?_ ?_
      rotate_left
      · intro w hSw; (try dsimp only at hSw); go_simp; (try with_reducible rfl)
      (try simp only [Act.put, pt8])
      refine wtk 7 ?_ ?_ ?_
      rotate_left
      · intro w hSw; (try dsimp only at hSw); go_simp; (try with_reducible rfl)
      (try simp only [Act.put, pt8])
      refine wtk 9 ?_ ?_ ?_
      rotate_left
      · intro w hSw; (try dsimp only at hSw); go_simp; (try with_reducible rfl)
      (try simp only [Act.put, pt8])
      refine wtk 10 ?_ ?_ ?_
      rotate_left
      · intro w hSw; (try dsimp only at hSw); go_simp; (try with_reducible rfl)
      (try simp only [Act.put, pt8])
      refine wpAnyH_ready (rs := [8]) (by kernel_rfl) (by simp) ?_
      refine AllReadyH.cons rfl (fun K hK => ?_) AllReadyH.nil
      go_simp
      have C := ohas_any X12 HZ1.out (HVo.out _ HB.out).out (Nat.le_refl _) HN1.out HS1.out
      rw [ED.out] at C
      refine C.mono ?_
      rintro e X13 ⟨rfl, hb⟩
      replace hb := hb.1
      clear C
      replace HZ1 := Lib.hid ((HZ1.out.below hb).more hb.size)
      replace HB := Lib.hid (chain HB.out hb)
      refine hK.out _ _ ⟨⟨kc hb hHeld.1.1, kc hb hHeld.1.2⟩, HB.out⟩ (fun hHeld => ?_)
      clear hb
      clear hK K
      (try simp only [Act.put, pt8])
      refine wpAnyH_ready (rs := [11]) (by kernel_rfl) (by simp) ?_
      refine AllReadyH.cons rfl (fun K hK => ?_) AllReadyH.nil
      go_simp
      have C := ohas_any X13 (HLl.out _ HB.out) (HVo.out _ HB.out).out (Nat.le_refl _) HFl.out.len6 HSl.out
      rw [EP.out] at C
      refine C.mono ?_
      rintro e X14 ⟨rfl, hb⟩
      replace hb := hb.1
      clear C
      replace HZ1 := Lib.hid ((HZ1.out.below hb).more hb.size)
      replace HB := Lib.hid (chain HB.out hb)
      refine hK.out _ _ ⟨⟨kc hb hHeld.1.1, kc hb hHeld.1.2⟩, HB.out⟩ (fun hHeld => ?_)
      clear hb
      clear hK K
      (try simp only [Act.put, pt8])
      refine wtk 12 ?_ ?_ ?_
      rotate_left
      · intro w hSw; (try dsimp only at hSw); go_simp; (try with_reducible rfl)
      (try simp only [Act.put, pt8])
      refine wtk 13 ?_ ?_ ?_
      rotate_left
      · intro w hSw; (try dsimp only at hSw); go_simp; (try with_reducible rfl)
      (try simp only [Act.put, pt8])
      refine wtk 14 ?_ ?_ ?_
      rotate_left
      · intro w hSw; (try dsimp only at hSw); go_simp; (try with_reducible rfl)
      (try simp only [Act.put, pt8])
      refine wpAnyH_ready (rs := [15]) (by kernel_rfl) (by simp) ?_
      refine AllReadyH.cons rfl (fun K hK => ?_) AllReadyH.nil
      go_simp
      have C := ohas_any X14 (HLm.out _ HB.out) (HVo.out _ HB.out).out (Nat.le_refl _) HFm.out.len6 HSm.out
      rw [EQ.out] at C
      refine C.mono ?_
      rintro e X15 ⟨rfl, hb⟩
      replace hb := hb.1
      clear C
      replace HZ1 := Lib.hid ((HZ1.out.below hb).more hb.size)
      replace HB := Lib.hid (chain HB.out hb)
      refine hK.out _ _ ⟨⟨kc hb hHeld.1.1, kc hb hHeld.1.2⟩, HB.out⟩ (fun hHeld => ?_)
      clear hb
      clear hK K
      (try simp only [Act.put, pt8])
      refine wtk 16 ?_ ?_ ?_
      rotate_left
      · intro w hSw; (try dsimp only at hSw); go_simp; (try with_reducible rfl)
      (try simp only [Act.put, pt8])
      refine wtk 17 ?_ ?_ ?_
      rotate_left
      · intro w hSw; (try dsimp only at hSw); go_simp; (try with_reducible rfl)
      (try simp only [Act.put, pt8])
      refine wtk 18 ?_ ?_ ?_
      rotate_left
      · intro w hSw; (try dsimp only at hSw); go_simp; (try with_reducible rfl)
      (try simp only [Act.put, pt8])
      refine wtk 19 ?_ ?_ ?_
      rotate_left
      · intro w hSw; (try dsimp only at hSw); go_simp; (try with_reducible rfl)
      (try simp only [Act.put, pt8])
      refine wtk 20 ?_ ?_ ?_
      rotate_left
      · intro w hSw; (try dsimp only at hSw); go_simp; (try with_reducible rfl)
      (try simp only [Act.put, pt8])
      refine wtk 21 ?_ ?_ ?_
      rotate_left
      · intro w hSw; (try dsimp only at hSw); go_simp; (try with_reducible rfl)
      (try simp only [Act.put, pt8])
      refine wtk 22 ?_ ?_ ?_
      rotate_left
      · intro w hSw; (try dsimp only at hSw); go_simp; (try with_reducible rfl)
      (try simp only [Act.put, pt8])
      refine wpAnyH_ready (rs := [23]) (by kernel_rfl) (by simp) ?_
      refine AllReadyH.cons rfl (fun K hK => ?_) AllReadyH.nil
      go_simp
      have C := ominus_any X15 (HLl.out _ HB.out) (HLl.out _ HB.out) (Nat.le_refl _) HFl.out.len6 HFl.out.sm HFl.out.len6 HSl.out
      refine C.mono ?_
      rintro e X16 ⟨u2, z2, rfl, hz2, ho2, hb⟩
      clear C
      replace HZ1 := Lib.hid ((HZ1.out.below hb).more hb.size)
      replace HB := Lib.hid (chain HB.out hb)
      obtain ⟨A2, d2, rfl⟩ := own_slice ho2.1
      have h0 : z2.length = 0 := by have := congrArg List.length hz2; rw [minO_self] at this; simpa using this
      rw [h0]
      clear hz2 ho2 h0
      refine hK.out _ _ ⟨⟨kc hb hHeld.1.1, kc hb hHeld.1.2⟩, HB.out⟩ (fun hHeld => ?_)
      clear hb
      clear hK K
      (try simp only [Act.put, pt8])
      refine wtk 24 ?_ ?_ ?_
      rotate_left
      · intro w hSw; (try dsimp only at hSw); go_simp; (try with_reducible rfl)
      (try simp only [Act.put, pt8])
      refine wtk 25 ?_ ?_ ?_
      rotate_left
      · intro w hSw; (try dsimp only at hSw); go_simp; (try with_reducible rfl)
      (try simp only [Act.put, pt8])
      refine wtk 26 ?_ ?_ ?_
      rotate_left
      · intro w hSw; (try dsimp only at hSw); go_simp; (try with_reducible rfl)
      (try simp only [Act.put, pt8])
      refine wtk 27 ?_ ?_ ?_
      rotate_left
      · intro w hSw; (try dsimp only at hSw); go_simp; (try with_reducible rfl)
      (try simp only [Act.put, pt8])
      refine wtk 28 ?_ ?_ ?_
      rotate_left
      · intro w hSw; (try dsimp only at hSw); go_simp; (try with_reducible rfl)
      (try simp only [Act.put, pt8])
      refine wtk 30 ?_ ?_ ?_
      rotate_left
      · intro w hSw; (try dsimp only at hSw); go_simp; (try with_reducible rfl)
      (try simp only [Act.put, pt8])
      refine wpAnyH_ready (rs := [29]) (by kernel_rfl) (by simp) ?_
      refine AllReadyH.cons rfl (fun K hK => ?_) AllReadyH.nil
      go_simp
      have C := ominus_any X16 (HLl.out _ HB.out) (⟨Rw.nil _ _, fun x hx => (by cases hx)⟩ : OutsX X16.heap.size X16 (.slice none 0 0) []) (Nat.le_refl _) HFl.out.len6 HFl.out.sm (by simp) List.Pairwise.nil
      refine C.mono ?_
      rintro e X17 ⟨u3, z3, rfl, hz3, ho3, hb⟩
      clear C
      replace HZ1 := Lib.hid ((HZ1.out.below hb).more hb.size)
      replace HB := Lib.hid (chain HB.out hb)
      have HZ3 := Lib.hid (show OutsX X17.heap.size X17 u3 z3 from ho3.outs)
      obtain ⟨A3, d3, rfl⟩ := own_slice ho3.1
      have HM3 := Lib.hid (show os z3 = os l from hz3.trans (minO_nil _))
      clear hz3 ho3
      refine hK.out _ _ ⟨⟨kc hb hHeld.1.1, kc hb hHeld.1.2⟩, HB.out⟩ (fun hHeld => ?_)
      clear hb
      clear hK K
      (try simp only [Act.put, pt8])
      refine wpAnyH_ready (rs := [31]) (by kernel_rfl) (by simp) ?_
      refine AllReadyH.cons rfl (fun K hK => ?_) AllReadyH.nil
      go_simp
      have C := rsame_any X17 HZ3.out (HLl.out _ HB.out) (Nat.le_refl _) (by have h1 := congrArg List.length HM3.out; have h3 := HFl.out.len6; simp at h1; omega) HFl.out.len6
      rw [decide_eq_true HM3.out] at C
      refine C.mono ?_
      rintro e X18 ⟨rfl, hb⟩
      clear C
      replace HZ1 := Lib.hid ((HZ1.out.below hb).more hb.size)
      replace HB := Lib.hid (chain HB.out hb)
      refine hK.out _ _ ⟨⟨kc hb hHeld.1.1, kc hb hHeld.1.2⟩, HB.out⟩ (fun hHeld => ?_)
      clear hb
      clear hK K
      (try simp only [Act.put, pt8])
      refine wtk 32 ?_ ?_ ?_
      rotate_left
      · intro w hSw; (try dsimp only at hSw); go_simp; (try with_reducible rfl)
      (try simp only [Act.put, pt8])
      refine wpAnyH_ready (rs := [33]) (by kernel_rfl) (by simp) ?_
      refine AllReadyH.cons rfl (fun K hK => ?_) AllReadyH.nil
      go_simp
      refine hK.out _ _ hHeld (fun hHeld => ?_)
      clear hK K
      (try simp only [Act.put, pt8])
      refine wpAnyH_done (by kernel_rfl) ?_ _
      clear hHeld
      go_wp2
      go_ret
      exact ⟨rfl, HB.out⟩
    · skip
      have EP := Lib.hid (show decide (oo ∈ os l) = true from decide_eq_true hp)
      have EQ := Lib.hid (show decide (oo ∈ os m) = false from decide_eq_false hq)
      have ED := Lib.hid (show decide (oo ∈ os z1) = true from decide_eq_true (by rw [HM1.out, minO_mem]; exact ⟨hp, hq⟩))
      clear hp hq
      go_upto_region 5 with fail
      replace HZ1 := Lib.hid (OutsX.drw HZ1.out)
      replace HB := Lib.hid (Below.drw HB.out)
      refine wp_region_held_drew (S := (fun w' => (w'.cell? ⟨g0, 0, none⟩ = some (.slice O1 on1 oc1) ∧ w'.cell? ⟨g0, 1, none⟩ = some (.slice O2 on2 oc2)) ∧ Below w.heap.size w w')) (by kernel_rfl) ⟨⟨c00, c01⟩, HB.out⟩ (fun hHeld => ?_)
      (try dsimp only at hHeld)
      generalize X10.drew = X19 at hHeld HB HZ1 ⊢
      refine wtk 0 ?_ ?_ ?_
      rotate_left
      · intro w hSw; (try dsimp only at hSw); go_simp; (try with_reducible rfl)
      (try simp only [Act.put, pt8])
      refine wtk 1 ?_ ?_ ?_
      rotate_left
      · intro w hSw; (try dsimp only at hSw); go_simp; (try with_reducible rfl)
      (try simp only [Act.put, pt8])
      refine wtk 2 ?_ ?_ ?_
      rotate_left
      · intro w hSw; (try dsimp only at hSw); go_simp; (try with_reducible rfl)
      (try simp only [Act.put, pt8])
      refine wpAnyH_ready (rs := [3]) (by kernel_rfl) (by simp) ?_
      refine AllReadyH.cons rfl (fun K hK => ?_) AllReadyH.nil
      go_simp
      have C := rset_any X19 HZ1.out (Nat.le_refl _) HN1.out
      rw [E1.out] at C
      refine C.mono ?_
      rintro e X20 ⟨rfl, hb⟩
      clear C
      replace HZ1 := Lib.hid ((HZ1.out.below hb).more hb.size)
      replace HB := Lib.hid (chain HB.out hb)
      refine hK.out _ _ ⟨⟨kc hb hHeld.1.1, kc hb hHeld.1.2⟩, HB.out⟩ (fun hHeld => ?_)
      clear hb
      clear hK K
      (try simp only [Act.put, pt8])
      refine wtk 4 ?_ ?_ ?_
      rotate_left
      · intro w hSw; (try dsimp only at hSw); go_simp; (try with_reducible rfl)
      (try simp only [Act.put, pt8])
      refine wtk 5 ?_ ?_ ?_
      rotate_left
      · intro w hSw; (try dsimp only at hSw); go_simp; (try with_reducible rfl)
      (try simp only [Act.put, pt8])
      refine wtk 6 ?_ ?_ ?_
      rotate_left
      · intro w hSw; (try dsimp only at hSw); go_simp; (try with_reducible rfl)
      (try simp only [Act.put, pt8])
      refine wtk 7 ?_ ?_ ?_
      rotate_left
      · intro w hSw; (try dsimp only at hSw); go_simp; (try with_reducible rfl)
      (try simp only [Act.put, pt8])
      refine wtk 9 ?_ ?_ ?_
      rotate_left
      · intro w hSw; (try dsimp only at hSw); go_simp; (try with_reducible rfl)
      (try simp only [Act.put, pt8])
      refine wtk 10 ?_ ?_ ?_
      rotate_left
      · intro w hSw; (try dsimp only at hSw); go_simp; (try with_reducible rfl)
      (try simp only [Act.put, pt8])
      refine wpAnyH_ready (rs := [8]) (by kernel_rfl) (by simp) ?_
      refine AllReadyH.cons rfl (fun K hK => ?_) AllReadyH.nil
      go_simp
      have C := ohas_any X20 HZ1.out (HVo.out _ HB.out).out (Nat.le_refl _) HN1.out HS1.out
      rw [ED.out] at C
      refine C.mono ?_
      rintro e X21 ⟨rfl, hb⟩
      replace hb := hb.1
      clear C
      replace HZ1 := Lib.hid ((HZ1.out.below hb).more hb.size)
      replace HB := Lib.hid (chain HB.out hb)
      refine hK.out _ _ ⟨⟨kc hb hHeld.1.1, kc hb hHeld.1.2⟩, HB.out⟩ (fun hHeld => ?_)
      clear hb
      clear hK K
      (try simp only [Act.put, pt8])
      refine wpAnyH_ready (rs := [11]) (by kernel_rfl) (by simp) ?_
      refine AllReadyH.cons rfl (fun K hK => ?_) AllReadyH.nil
      go_simp
      have C := ohas_any X21 (HLl.out _ HB.out) (HVo.out _ HB.out).out (Nat.le_refl _) HFl.out.len6 HSl.out
      rw [EP.out] at C
      refine C.mono ?_
      rintro e X22 ⟨rfl, hb⟩
      replace hb := hb.1
      clear C
      replace HZ1 := Lib.hid ((HZ1.out.below hb).more hb.size)
      replace HB := Lib.hid (chain HB.out hb)
      refine hK.out _ _ ⟨⟨kc hb hHeld.1.1, kc hb hHeld.1.2⟩, HB.out⟩ (fun hHeld => ?_)
      clear hb
      clear hK K
      (try simp only [Act.put, pt8])
      refine wtk 12 ?_ ?_ ?_
      rotate_left
      · intro w hSw; (try dsimp only at hSw); go_simp; (try with_reducible rfl)
      (try simp only [Act.put, pt8])
      refine wtk 13 ?_ ?_ ?_
      rotate_left
      · intro w hSw; (try dsimp only at hSw); go_simp; (try with_reducible rfl)
      (try simp only [Act.put, pt8])
      refine wtk 14 ?_ ?_ ?_
      rotate_left
      · intro w hSw; (try dsimp only at hSw); go_simp; (try with_reducible rfl)
      (try simp only [Act.put, pt8])
      refine wpAnyH_ready (rs := [15]) (by kernel_rfl) (by simp) ?_
      refine AllReadyH.cons rfl (fun K hK => ?_) AllReadyH.nil
      go_simp
      have C := ohas_any X22 (HLm.out _ HB.out) (HVo.out _ HB.out).out (Nat.le_refl _) HFm.out.len6 HSm.out
      rw [EQ.out] at C
      refine C.mono ?_
      rintro e X23 ⟨rfl, hb⟩
      replace hb := hb.1
      clear C
      replace HZ1 := Lib.hid ((HZ1.out.below hb).more hb.size)
      replace HB := Lib.hid (chain HB.out hb)
      refine hK.out _ _ ⟨⟨kc hb hHeld.1.1, kc hb hHeld.1.2⟩, HB.out⟩ (fun hHeld => ?_)
      clear hb
      clear hK K
      (try simp only [Act.put, pt8])
      refine wtk 16 ?_ ?_ ?_
      rotate_left
      · intro w hSw; (try dsimp only at hSw); go_simp; (try with_reducible rfl)
      (try simp only [Act.put, pt8])
      refine wtk 17 ?_ ?_ ?_
      rotate_left
      · intro w hSw; (try dsimp only at hSw); go_simp; (try with_reducible rfl)
      (try simp only [Act.put, pt8])
      refine wtk 18 ?_ ?_ ?_
      rotate_left
      · intro w hSw; (try dsimp only at hSw); go_simp; (try with_reducible rfl)
      (try simp only [Act.put, pt8])
      refine wtk 19 ?_ ?_ ?_
      rotate_left
      · intro w hSw; (try dsimp only at hSw); go_simp; (try with_reducible rfl)
      (try simp only [Act.put, pt8])
      refine wtk 20 ?_ ?_ ?_
      rotate_left
      · intro w hSw; (try dsimp only at hSw); go_simp; (try with_reducible rfl)
      (try simp only [Act.put, pt8])
      refine wtk 21 ?_ ?_ ?_
      rotate_left
      · intro w hSw; (try dsimp only at hSw); go_simp; (try with_reducible rfl)
      (try simp only [Act.put, pt8])
      refine wtk 22 ?_ ?_ ?_
      rotate_left
      · intro w hSw; (try dsimp only at hSw); go_simp; (try with_reducible rfl)
      (try simp only [Act.put, pt8])
      refine wpAnyH_ready (rs := [23]) (by kernel_rfl) (by simp) ?_
      refine AllReadyH.cons rfl (fun K hK => ?_) AllReadyH.nil
      go_simp
      have C := ominus_any X23 (HLl.out _ HB.out) (HLl.out _ HB.out) (Nat.le_refl _) HFl.out.len6 HFl.out.sm HFl.out.len6 HSl.out
      refine C.mono ?_
      rintro e X24 ⟨u2, z2, rfl, hz2, ho2, hb⟩
      clear C
      replace HZ1 := Lib.hid ((HZ1.out.below hb).more hb.size)
      replace HB := Lib.hid (chain HB.out hb)
      obtain ⟨A2, d2, rfl⟩ := own_slice ho2.1
      have h0 : z2.length = 0 := by have := congrArg List.length hz2; rw [minO_self] at this; simpa using this
      rw [h0]
      clear hz2 ho2 h0
      refine hK.out _ _ ⟨⟨kc hb hHeld.1.1, kc hb hHeld.1.2⟩, HB.out⟩ (fun hHeld => ?_)
      clear hb
      clear hK K
      (try simp only [Act.put, pt8])
      refine wtk 24 ?_ ?_ ?_
      rotate_left
      · intro w hSw; (try dsimp only at hSw); go_simp; (try with_reducible rfl)
      (try simp only [Act.put, pt8])
      refine wtk 25 ?_ ?_ ?_
      rotate_left
      · intro w hSw; (try dsimp only at hSw); go_simp; (try with_reducible rfl)
      (try simp only [Act.put, pt8])
      refine wtk 26 ?_ ?_ ?_
      rotate_left
      · intro w hSw; (try dsimp only at hSw); go_simp; (try with_reducible rfl)
      (try simp only [Act.put, pt8])
      refine wtk 27 ?_ ?_ ?_
      rotate_left
      · intro w hSw; (try dsimp only at hSw); go_simp; (try with_reducible rfl)
      (try simp only [Act.put, pt8])
      refine wtk 28 ?_ ?_ ?_
      rotate_left
      · intro w hSw; (try dsimp only at hSw); go_simp; (try with_reducible rfl)
      (try simp only [Act.put, pt8])
      refine wtk 30 ?_ ?_ ?_
      rotate_left
      · intro w hSw; (try dsimp only at hSw); go_simp; (try with_reducible rfl)
      (try simp only [Act.put, pt8])
      refine wpAnyH_ready (rs := [29]) (by kernel_rfl) (by simp) ?_
      refine AllReadyH.cons rfl (fun K hK => ?_) AllReadyH.nil
      go_simp
      have C := ominus_any X24 (HLl.out _ HB.out) (⟨Rw.nil _ _, fun x hx => (by cases hx)⟩ : OutsX X24.heap.size X24 (.slice none 0 0) []) (Nat.le_refl _) HFl.out.len6 HFl.out.sm (by simp) List.Pairwise.nil
      refine C.mono ?_
      rintro e X25 ⟨u3, z3, rfl, hz3, ho3, hb⟩
      clear C
      replace HZ1 := Lib.hid ((HZ1.out.below hb).more hb.size)
      replace HB := Lib.hid (chain HB.out hb)
      have HZ3 := Lib.hid (show OutsX X25.heap.size X25 u3 z3 from ho3.outs)
      obtain ⟨A3, d3, rfl⟩ := own_slice ho3.1
      have HM3 := Lib.hid (show os z3 = os l from hz3.trans (minO_nil _))
      clear hz3 ho3
      refine hK.out _ _ ⟨⟨kc hb hHeld.1.1, kc hb hHeld.1.2⟩, HB.out⟩ (fun hHeld => ?_)
      clear hb
      clear hK K
      (try simp only [Act.put, pt8])
      refine wpAnyH_ready (rs := [31]) (by kernel_rfl) (by simp) ?_
      refine AllReadyH.cons rfl (fun K hK => ?_) AllReadyH.nil
      go_simp
      have C := rsame_any X25 HZ3.out (HLl.out _ HB.out) (Nat.le_refl _) (by have h1 := congrArg List.length HM3.out; have h3 := HFl.out.len6; simp at h1; omega) HFl.out.len6
      rw [decide_eq_true HM3.out] at C
      refine C.mono ?_
      rintro e X26 ⟨rfl, hb⟩
      clear C
      replace HZ1 := Lib.hid ((HZ1.out.below hb).more hb.size)
      replace HB := Lib.hid (chain HB.out hb)
      refine hK.out _ _ ⟨⟨kc hb hHeld.1.1, kc hb hHeld.1.2⟩, HB.out⟩ (fun hHeld => ?_)
      clear hb
      clear hK K
      (try simp only [Act.put, pt8])
      refine wtk 32 ?_ ?_ ?_
      rotate_left
      · intro w hSw; (try dsimp only at hSw); go_simp; (try with_reducible rfl)
      (try simp only [Act.put, pt8])
      refine wpAnyH_ready (rs := [33]) (by kernel_rfl) (by simp) ?_
      refine AllReadyH.cons rfl (fun K hK => ?_) AllReadyH.nil
      go_simp
      refine hK.out _ _ hHeld (fun hHeld => ?_)
      clear hK K
      (try simp only [Act.put, pt8])
      refine wpAnyH_done (by kernel_rfl) ?_ _
      clear hHeld
      go_wp2
      go_ret
      exact ⟨rfl, HB.out⟩
  · skip
    have EP := Lib.hid (show decide (oo ∈ os l) = false from decide_eq_false hp)
    have ED := Lib.hid (show decide (oo ∈ os z1) = false from decide_eq_false (by rw [HM1.out, minO_mem]; exact fun h => hp h.1))
    clear hp
    go_upto_region 5 with fail
    replace HZ1 := Lib.hid (OutsX.drw HZ1.out)
    replace HB := Lib.hid (Below.drw HB.out)
    refine wp_region_held_drew (S := (fun w' => (w'.cell? ⟨g0, 0, none⟩ = some (.slice O1 on1 oc1) ∧ w'.cell? ⟨g0, 1, none⟩ = some (.slice O2 on2 oc2)) ∧ Below w.heap.size w w')) (by kernel_rfl) ⟨⟨c00, c01⟩, HB.out⟩ (fun hHeld => ?_)
    (try dsimp only at hHeld)
    generalize X10.drew = X27 at hHeld HB HZ1 ⊢
    refine wtk 0 ?_ ?_ ?_
    rotate_left
    · intro w hSw; (try dsimp only at hSw); go_simp; (try with_reducible rfl)
    (try simp only [Act.put, pt8])
    refine wtk 1 ?_ ?_ ?_
    rotate_left
    · intro w hSw; (try dsimp only at hSw); go_simp; (try with_reducible rfl)
    (try simp only [Act.put, pt8])
    refine wtk 2 ?_ ?_ ?_
    rotate_left
    · intro w hSw; (try dsimp only at hSw); go_simp; (try with_reducible rfl)
    (try simp only [Act.put, pt8])
    refine wpAnyH_ready (rs := [3]) (by kernel_rfl) (by simp) ?_
    refine AllReadyH.cons rfl (fun K hK => ?_) AllReadyH.nil
    go_simp
    have C := rset_any X27 HZ1.out (Nat.le_refl _) HN1.out
    rw [E1.out] at C
    refine C.mono ?_
    rintro e X28 ⟨rfl, hb⟩
    clear C
    replace HZ1 := Lib.hid ((HZ1.out.below hb).more hb.size)
    replace HB := Lib.hid (chain HB.out hb)
    refine hK.out _ _ ⟨⟨kc hb hHeld.1.1, kc hb hHeld.1.2⟩, HB.out⟩ (fun hHeld => ?_)
    clear hb
    clear hK K
    (try simp only [Act.put, pt8])
    refine wtk 4 ?_ ?_ ?_
    rotate_left
    · intro w hSw; (try dsimp only at hSw); go_simp; (try with_reducible rfl)
    (try simp only [Act.put, pt8])
    refine wtk 5 ?_ ?_ ?_
    rotate_left
    · intro w hSw; (try dsimp only at hSw); go_simp; (try with_reducible rfl)
    (try simp only [Act.put, pt8])
    refine wtk 6 ?_ ?_ ?_
    rotate_left
    · intro w hSw; (try dsimp only at hSw); go_simp; (try with_reducible rfl)
    (try simp only [Act.put, pt8])
    refine wtk 7 ?_ ?_ ?_
    rotate_left
    · intro w hSw; (try dsimp only at hSw); go_simp; (try with_reducible rfl)
    (try simp only [Act.put, pt8])
    refine wtk 9 ?_ ?_ ?_
    rotate_left
    · intro w hSw; (try dsimp only at hSw); go_simp; (try with_reducible rfl)
    (try simp only [Act.put, pt8])
    refine wtk 10 ?_ ?_ ?_
    rotate_left
    · intro w hSw; (try dsimp only at hSw); go_simp; (try with_reducible rfl)
    (try simp only [Act.put, pt8])
    refine wpAnyH_ready (rs := [8]) (by kernel_rfl) (by simp) ?_
    refine AllReadyH.cons rfl (fun K hK => ?_) AllReadyH.nil
    go_simp
    have C := ohas_any X28 HZ1.out (HVo.out _ HB.out).out (Nat.le_refl _) HN1.out HS1.out
    rw [ED.out] at C
    refine C.mono ?_
    rintro e X29 ⟨rfl, hb⟩
    replace hb := hb.1
    clear C
    replace HZ1 := Lib.hid ((HZ1.out.below hb).more hb.size)
    replace HB := Lib.hid (chain HB.out hb)
    refine hK.out _ _ ⟨⟨kc hb hHeld.1.1, kc hb hHeld.1.2⟩, HB.out⟩ (fun hHeld => ?_)
    clear hb
    clear hK K
    (try simp only [Act.put, pt8])
    refine wpAnyH_ready (rs := [11]) (by kernel_rfl) (by simp) ?_
    refine AllReadyH.cons rfl (fun K hK => ?_) AllReadyH.nil
    go_simp
    have C := ohas_any X29 (HLl.out _ HB.out) (HVo.out _ HB.out).out (Nat.le_refl _) HFl.out.len6 HSl.out
    rw [EP.out] at C
    refine C.mono ?_
    rintro e X30 ⟨rfl, hb⟩
    replace hb := hb.1
    clear C
    replace HZ1 := Lib.hid ((HZ1.out.below hb).more hb.size)
    replace HB := Lib.hid (chain HB.out hb)
    refine hK.out _ _ ⟨⟨kc hb hHeld.1.1, kc hb hHeld.1.2⟩, HB.out⟩ (fun hHeld => ?_)
    clear hb
    clear hK K
    (try simp only [Act.put, pt8])
    refine wtk 12 ?_ ?_ ?_
    rotate_left
    · intro w hSw; (try dsimp only at hSw); go_simp; (try with_reducible rfl)
    (try simp only [Act.put, pt8])
    refine wpAnyH_take (i := 13) (v := undef) rfl (by kernel_rfl) (by kernel_rfl) (by kernel_rfl) (fun _ _ _ h => h) (Or.inr ⟨by rfl, rfl⟩) (by assumption) ?_
    (try simp only [Act.put, pt8])
    refine wpAnyH_take (i := 14) (v := undef) rfl (by kernel_rfl) (by kernel_rfl) (by kernel_rfl) (fun _ _ _ h => h) (Or.inr ⟨by rfl, rfl⟩) (by assumption) ?_
    (try simp only [Act.put, pt8])
    refine wpAnyH_take (i := 15) (v := undef) rfl (by kernel_rfl) (by kernel_rfl) (by kernel_rfl) (fun _ _ _ h => h) (Or.inr ⟨by rfl, rfl⟩) (by assumption) ?_
    (try simp only [Act.put, pt8])
    refine wpAnyH_take (i := 16) (v := undef) rfl (by kernel_rfl) (by kernel_rfl) (by kernel_rfl) (fun _ _ _ h => h) (Or.inr ⟨by rfl, rfl⟩) (by assumption) ?_
    (try simp only [Act.put, pt8])
    refine wtk 17 ?_ ?_ ?_
    rotate_left
    · intro w hSw; (try dsimp only at hSw); go_simp; (try with_reducible rfl)
    (try simp only [Act.put, pt8])
    refine wtk 18 ?_ ?_ ?_
    rotate_left
    · intro w hSw; (try dsimp only at hSw); go_simp; (try with_reducible rfl)
    (try simp only [Act.put, pt8])
    refine wtk 19 ?_ ?_ ?_
    rotate_left
    · intro w hSw; (try dsimp only at hSw); go_simp; (try with_reducible rfl)
    (try simp only [Act.put, pt8])
    refine wtk 20 ?_ ?_ ?_
    rotate_left
    · intro w hSw; (try dsimp only at hSw); go_simp; (try with_reducible rfl)
    (try simp only [Act.put, pt8])
    refine wtk 21 ?_ ?_ ?_
    rotate_left
    · intro w hSw; (try dsimp only at hSw); go_simp; (try with_reducible rfl)
    (try simp only [Act.put, pt8])
    refine wtk 22 ?_ ?_ ?_
    rotate_left
    · intro w hSw; (try dsimp only at hSw); go_simp; (try with_reducible rfl)
    (try simp only [Act.put, pt8])
    refine wpAnyH_ready (rs := [23]) (by kernel_rfl) (by simp) ?_
    refine AllReadyH.cons rfl (fun K hK => ?_) AllReadyH.nil
    go_simp
    have C := ominus_any X30 (HLl.out _ HB.out) (HLl.out _ HB.out) (Nat.le_refl _) HFl.out.len6 HFl.out.sm HFl.out.len6 HSl.out
    refine C.mono ?_
    rintro e X31 ⟨u2, z2, rfl, hz2, ho2, hb⟩
    clear C
    replace HZ1 := Lib.hid ((HZ1.out.below hb).more hb.size)
    replace HB := Lib.hid (chain HB.out hb)
    obtain ⟨A2, d2, rfl⟩ := own_slice ho2.1
    have h0 : z2.length = 0 := by have := congrArg List.length hz2; rw [minO_self] at this; simpa using this
    rw [h0]
    clear hz2 ho2 h0
    refine hK.out _ _ ⟨⟨kc hb hHeld.1.1, kc hb hHeld.1.2⟩, HB.out⟩ (fun hHeld => ?_)
    clear hb
    clear hK K
    (try simp only [Act.put, pt8])
    refine wtk 24 ?_ ?_ ?_
    rotate_left
    · intro w hSw; (try dsimp only at hSw); go_simp; (try with_reducible rfl)
    (try simp only [Act.put, pt8])
    refine wtk 25 ?_ ?_ ?_
    rotate_left
    · intro w hSw; (try dsimp only at hSw); go_simp; (try with_reducible rfl)
    (try simp only [Act.put, pt8])
    refine wtk 26 ?_ ?_ ?_
    rotate_left
    · intro w hSw; (try dsimp only at hSw); go_simp; (try with_reducible rfl)
    (try simp only [Act.put, pt8])
    refine wtk 27 ?_ ?_ ?_
    rotate_left
    · intro w hSw; (try dsimp only at hSw); go_simp; (try with_reducible rfl)
    (try simp only [Act.put, pt8])
    refine wtk 28 ?_ ?_ ?_
    rotate_left
    · intro w hSw; (try dsimp only at hSw); go_simp; (try with_reducible rfl)
    (try simp only [Act.put, pt8])
    refine wtk 30 ?_ ?_ ?_
    rotate_left
    · intro w hSw; (try dsimp only at hSw); go_simp; (try with_reducible rfl)
    (try simp only [Act.put, pt8])
    refine wpAnyH_ready (rs := [29]) (by kernel_rfl) (by simp) ?_
    refine AllReadyH.cons rfl (fun K hK => ?_) AllReadyH.nil
    go_simp
    have C := ominus_any X31 (HLl.out _ HB.out) (⟨Rw.nil _ _, fun x hx => (by cases hx)⟩ : OutsX X31.heap.size X31 (.slice none 0 0) []) (Nat.le_refl _) HFl.out.len6 HFl.out.sm (by simp) List.Pairwise.nil
    refine C.mono ?_
    rintro e X32 ⟨u3, z3, rfl, hz3, ho3, hb⟩
    clear C
    replace HZ1 := Lib.hid ((HZ1.out.below hb).more hb.size)
    replace HB := Lib.hid (chain HB.out hb)
    have HZ3 := Lib.hid (show OutsX X32.heap.size X32 u3 z3 from ho3.outs)
    obtain ⟨A3, d3, rfl⟩ := own_slice ho3.1
    have HM3 := Lib.hid (show os z3 = os l from hz3.trans (minO_nil _))
    clear hz3 ho3
    refine hK.out _ _ ⟨⟨kc hb hHeld.1.1, kc hb hHeld.1.2⟩, HB.out⟩ (fun hHeld => ?_)
    clear hb
    clear hK K
    (try simp only [Act.put, pt8])
    refine wpAnyH_ready (rs := [31]) (by kernel_rfl) (by simp) ?_
    refine AllReadyH.cons rfl (fun K hK => ?_) AllReadyH.nil
    go_simp
    have C := rsame_any X32 HZ3.out (HLl.out _ HB.out) (Nat.le_refl _) (by have h1 := congrArg List.length HM3.out; have h3 := HFl.out.len6; simp at h1; omega) HFl.out.len6
    rw [decide_eq_true HM3.out] at C
    refine C.mono ?_
    rintro e X33 ⟨rfl, hb⟩
    clear C
    replace HZ1 := Lib.hid ((HZ1.out.below hb).more hb.size)
    replace HB := Lib.hid (chain HB.out hb)
    refine hK.out _ _ ⟨⟨kc hb hHeld.1.1, kc hb hHeld.1.2⟩, HB.out⟩ (fun hHeld => ?_)
    clear hb
    clear hK K
    (try simp only [Act.put, pt8])
    refine wtk 32 ?_ ?_ ?_
    rotate_left
    · intro w hSw; (try dsimp only at hSw); go_simp; (try with_reducible rfl)
    (try simp only [Act.put, pt8])
    refine wpAnyH_ready (rs := [33]) (by kernel_rfl) (by simp) ?_
    refine AllReadyH.cons rfl (fun K hK => ?_) AllReadyH.nil
    go_simp
    refine hK.out _ _ hHeld (fun hHeld => ?_)
    clear hK K
    (try simp only [Act.put, pt8])
    refine wpAnyH_done (by kernel_rfl) ?_ _
    clear hHeld
    go_wp2
    go_ret
    exact ⟨rfl, HB.out⟩
end Go.Proofs.Ytodpajnpnobfmaa
