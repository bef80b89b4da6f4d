/-
  tso.Flush.
-/
import Derived.Test.YtkbnppidkhbbeaaTsO
import Derived.Deep.RegionHeld3
import Derived.Deep.DeepCutAuto
namespace Go.Proofs.Ytkbnppidkhbbeaa
open Go.RowKit
set_option linter.unusedVariables false
set_option linter.unusedSimpArgs false
open CodM (St Pg rightP hReg hLoc)
open BfM (Wr plc)
open ScM

set_option maxHeartbeats 8000000 in
set_option maxRecDepth 100000 in
theorem tflush_any {B : Nat} {v u : Value} {P : Pg} {s : Sta} (t : Int) (w : World) (hv : PgV B w v P) (hu : StaV B w u s) (hBB : B ≤ w.heap.size) (hp : rightP P = true) (ho : OkSt P s) (hw : WideS s) :
    Calls Try.prog 17 #[v, u, .int .i64 t] w (StRet (flu s t) w) := by
  have HOWN := Lib.hid (fun W (hW : Below w.heap.size w W) => town_any W ((hv.below (hW.mono hBB)).more (Nat.le_trans hBB hW.size)) ((hu.below (hW.mono hBB)).more (Nat.le_trans hBB hW.size)) (Nat.le_refl _) hp ho hw)
  have HTH := Lib.hid (fun W (hW : Below w.heap.size w W) => tthread_any t W ((hv.below (hW.mono hBB)).more (Nat.le_trans hBB hW.size)) (Nat.le_refl _))
  have HWR := Lib.hid hw.regs
  have hwm := hw.mem
  have HTL := Lib.hid ho.ths
  clear hp ho hw
  obtain ⟨pi, pt, rfl, hpm⟩ := hv
  obtain ⟨um, ut, rfl, hum⟩ := hu
  obtain ⟨⟨P0, d0, rfl, -⟩, ⟨P1, d1, rfl, l1, l2, l3⟩⟩ := hpm
  have HUM := Lib.hid hum.1
  obtain ⟨⟨A7, c7, rfl, -⟩, ⟨A1, c1, rfl, m1, m2, -, m3⟩⟩ := hum
  have HM3 := Lib.hid m3
  have HL3P := Lib.hid l3
  unfold maxLen at m2 l2
  clear m3 l3
  have HCO := Lib.hid (show Try.prog.cellsOf 28 = 2 from by kernel_rfl)
  obtain ⟨W3, hW3⟩ : ∃ W, W = ((w.alloc (.cells #[.slice P0 P.init.length d0, .slice P1 P.ths.length d1] 25)).alloc (.cells #[.slice A7 s.mem.length c7, .slice A1 s.ths.length c1] 28)).alloc (.cells #[.slice none 0 0, .slice none 0 0] 28) := ⟨_, rfl⟩
  obtain ⟨gp, hgp⟩ : ∃ g, g = w.heap.size := ⟨_, rfl⟩
  obtain ⟨gs, hgs⟩ : ∃ g, g = w.heap.size + 1 := ⟨_, rfl⟩
  obtain ⟨gr, hgr⟩ : ∃ g, g = w.heap.size + 1 + 1 := ⟨_, rfl⟩
  have HX := Lib.hid (show BoxC W3 gp 25 #[.slice P0 P.init.length d0, .slice P1 P.ths.length d1] from by rw [hW3, hgp]; exact ((BoxC.new w _ _).alloc _).alloc _)
  have HY := Lib.hid (show BoxC W3 gs 28 #[.slice A7 s.mem.length c7, .slice A1 s.ths.length c1] from by rw [hW3, hgs]; have := (BoxC.new (w.alloc (.cells #[.slice P0 P.init.length d0, .slice P1 P.ths.length d1] 25)) 28 #[.slice A7 s.mem.length c7, .slice A1 s.ths.length c1]).alloc (.cells #[.slice none 0 0, .slice none 0 0] 28); rw [World.size_alloc] at this; exact this)
  have HR := Lib.hid (show BoxC W3 gr 28 #[.slice none 0 0, .slice none 0 0] from by rw [hW3, hgr]; have := BoxC.new ((w.alloc (.cells #[.slice P0 P.init.length d0, .slice P1 P.ths.length d1] 25)).alloc (.cells #[.slice A7 s.mem.length c7, .slice A1 s.ths.length c1] 28)) 28 #[.slice none 0 0, .slice none 0 0]; rw [World.size_alloc, World.size_alloc] at this; exact this)
  have HB3 := Lib.hid (show Below w.heap.size w W3 from by rw [hW3]; exact below_al (below_al (below_al (Below.refl _ _) _) _) _)
  have HGR := Lib.hid (show w.heap.size ≤ gr from by omega)
  have HGS := Lib.hid (show gs < W3.heap.size from HY.out.lt)
  have x0 := HX.out.cell 0 _ rfl
  have x1 := HX.out.cell 1 _ rfl
  have y0 := HY.out.cell 0 _ rfl
  have y1 := HY.out.cell 1 _ rfl
  go_enter Try.func17, Try.ntmps17
  go_upto_region 1 with fail
  rw [← hW3]
  (try rw [← hgr])
  (try rw [← hgs])
  (try rw [← hgp])
  clear hW3 hgr hgs hgp
  go_wp2_with fail
  refine (HOWN.out _ HB3.out).mono ?_
  rintro e w1 ⟨vm, vt, ps, rfl, hos, hb1⟩
  have HOS := Lib.hid hos
  have HB1 := Lib.hid hb1
  obtain ⟨Am, cm, rfl⟩ := own_slice hos.mem
  obtain ⟨Av, cv, rfl⟩ := own_slice hos.ths
  clear hos hb1
  clear HOWN x0 x1 y0 y1
  go_upto_region 2 with fail
  obtain ⟨X1, hX1⟩ : ∃ W, W = w1.alloc (.cells #[.slice Am s.mem.length cm, .slice Av s.ths.length cv] 28) := ⟨_, rfl⟩
  obtain ⟨go, hgo⟩ : ∃ g, g = w1.heap.size := ⟨_, rfl⟩
  have HQ1 := Lib.hid (show BoxC X1 go 28 #[.slice Am s.mem.length cm, .slice Av s.ths.length cv] from by rw [hX1, hgo]; exact BoxC.new w1 _ _)
  have HL1 := Lib.hid (show Below w1.heap.size w1 X1 from by rw [hX1]; exact below_al (Below.refl _ _) _)
  have HL3 := Lib.hid (chain HB1.out HL1.out)
  have HGO := Lib.hid (show gs < go from by rw [hgo]; exact Nat.lt_of_lt_of_le HGS.out HB1.out.size)
  have HGO3 := Lib.hid (show W3.heap.size ≤ go from by rw [hgo]; exact HB1.out.size)
  replace HOS := Lib.hid (HOS.out.below HL1.out)
  rw [← hX1]
  (try rw [← hgo])
  clear hX1 hgo HL1 HB1
  have HRR := Lib.hid (HR.out.below HL3.out HR.out.lt)
  have HBF := Lib.hid (chain HB3.out HL3.out)
  have x0 := (HX.out.below HL3.out HX.out.lt).cell 0 _ rfl
  have x1 := (HX.out.below HL3.out HX.out.lt).cell 1 _ rfl
  go_wp2_with fail
  refine (HTH.out _ HBF.out).mono ?_
  rintro e w5 ⟨rfl, hb5⟩
  clear x0 x1 HTH
  replace HOS := Lib.hid (HOS.out.below hb5)
  replace HQ1 := Lib.hid (HQ1.out.below hb5 HQ1.out.lt)
  replace HRR := Lib.hid (HRR.out.below hb5 HRR.out.lt)
  replace HBF := Lib.hid (chain HBF.out hb5)
  replace HL3 := Lib.hid (chain HL3.out hb5)
  clear hb5
  by_cases hr : 0 ≤ t ∧ t < (P.ths.length : Int)
  case neg =>
    have HFE := Lib.hid (show flu s t = s from by unfold flu; rw [thO_none (by rw [HTL.out]; exact hr)])
    rw [decide_eq_false hr]
    clear hr
    have y0 := HQ1.out.cell 0 _ rfl
    have y1 := HQ1.out.cell 1 _ rfl
    have r0 := HRR.out.cell 0 _ rfl
    have r1 := HRR.out.cell 1 _ rfl
    have f0 := HRR.out.frozen 0
    have f1 := HRR.out.frozen 1
    obtain ⟨W9, hW9⟩ : ∃ W, W = (w5.setCell ⟨gr, 0, none⟩ (.slice Am s.mem.length cm)).setCell ⟨gr, 1, none⟩ (.slice Av s.ths.length cv) := ⟨_, rfl⟩
    have HR9 := Lib.hid (show BoxC W9 gr 28 #[(.slice Am s.mem.length cm), (.slice Av s.ths.length cv)] from by rw [hW9]; exact (HRR.out.set 0 _).set 1 _)
    have HO9 := Lib.hid (show OwnSt W3.heap.size W9 (.slice Am s.mem.length cm) (.slice Av s.ths.length cv) (flu s t) ps from by
      rw [hW9]
      exact ((HOS.out.cast HFE.out.symm).box HRR.out (by decide) (by decide) (by decide) 0 _).box (HRR.out.set 0 _) (by decide) (by decide) (by decide) 1 _)
    have HB9 := Lib.hid (show Below w.heap.size w W9 from by rw [hW9]; exact (HBF.out.setCell (p := ⟨gr, 0, none⟩) HGR.out _).setCell (p := ⟨gr, 1, none⟩) HGR.out _)
    have HW9 := Lib.hid hW9
    clear hW9
    go_wp2_with fail
    rw [← HW9.out]
    clear r0 r1 f0 f1
    have r0 := HR9.out.cell 0 _ rfl
    have r1 := HR9.out.cell 1 _ rfl
    have hz := HCO.out
    refine bodyPost_ret (v := .agg #[(.slice Am s.mem.length cm), (.slice Av s.ths.length cv)]) (by simp [results, Try.results17, go_sem, r0, r1, hz]) rfl ⟨_, _, _, rfl, HO9.out.base HB3.out.size, HB9.out⟩
  rw [decide_eq_true hr]
  obtain ⟨hr1, hr2⟩ := hr
  obtain ⟨k, rfl⟩ : ∃ k : Nat, t = k := ⟨t.toNat, by omega⟩
  have hks : k < s.ths.length := by rw [HTL.out]; omega
  rcases hth : s.ths[k] with ⟨xa, xr, xe, xb⟩
  have HFE := Lib.hid (show flu s (k : Int) = ⟨BfM.all xb s.mem, s.ths.set k ⟨xa, xr, xe, []⟩⟩ from by rw [flu_at hks, hth])
  have HBL := Lib.hid (show xb.length ≤ 1000000 from by have := (HWR.out _ (List.getElem_mem hks)).2; rw [hth] at this; dsimp only at this; omega)
  have HRW := Lib.hid HR.out.lt
  have HGG := Lib.hid (show gr ≠ go from by have := HRW.out; have := HGO3.out; omega)
  obtain ⟨vr, vb, hpk⟩ := HOS.out.pk hks
  rw [hth] at hpk
  have HPK := Lib.hid hpk
  obtain ⟨hkp, hpe⟩ := List.getElem?_eq_some_iff.1 hpk
  obtain ⟨gt, cv', cur, hev, hgt, hbv, t0, t1, t2, t3⟩ := HOS.out.row hkp
  injection hev with hev1 hev3 hev2
  clear hev3
  subst hev1 hev2
  rw [hpe] at t1 t3
  have HOE := Lib.hid (HOS.out.each _ (List.getElem_mem hkp))
  rw [hpe] at HOE
  have HBV := Lib.hid hbv
  have HGT := Lib.hid hgt
  clear hbv hgt hpe
  have c0 := HQ1.out.cell 0 _ rfl
  have c1 := HQ1.out.cell 1 _ rfl
  dsimp only at HOE t3
  obtain ⟨Ab, cb, rfl⟩ := own_slice HOE.out.2.1
  go_upto_region 4 with fail
  clear t0 t1 t2 c1
  have HAL := Lib.hid (fun W (hW' : Below w5.heap.size w5 W) => ball_any W (Rw.own (own_below HOE.out.2.1 hW') (Nat.le_refl _)) (Rw.own (own_below HOS.out.mem hW') (Nat.le_refl _)) (Nat.le_refl _) HBL.out (by omega))
  refine wp_region_held_drew (S := (fun _ => True)) (by kernel_rfl) trivial (fun hHeld => ?_)
  obtain ⟨Xs, hXs⟩ : ∃ W, W = w5.drew := ⟨_, rfl⟩
  have HXs := Lib.hid (show Below w5.heap.size w5 Xs from by rw [hXs]; exact below_drewN (Below.refl _ _) 1)
  rw [← hXs]
  clear hXs
  have HT3 := Lib.hid t3
  replace t3 := kc HXs.out t3
  replace c0 := kc HXs.out c0
  refine wpAnyH_take (i := 0) (v := ?_) rfl (by kernel_rfl) (by kernel_rfl) (by kernel_rfl) (fun _ _ _ h => h) (Or.inl ⟨by rfl, ?_⟩) (by assumption) ?_
  rotate_left
  · intro w hSw; (try dsimp only at hSw); go_simp; (try with_reducible rfl)
  (try simp only [Act.put, List.getElem_toArray, List.getElem_cons_zero, List.getElem_cons_succ, Array.getInternal_eq_getElem, List.setIfInBounds_toArray, List.set_cons_zero, List.set_cons_succ])
  refine wpAnyH_take (i := 1) (v := ?_) rfl (by kernel_rfl) (by kernel_rfl) (by kernel_rfl) (fun _ _ _ h => h) (Or.inl ⟨by rfl, ?_⟩) (by assumption) ?_
  rotate_left
  · intro w hSw; (try dsimp only at hSw); go_simp; (try with_reducible rfl)
  (try simp only [Act.put, List.getElem_toArray, List.getElem_cons_zero, List.getElem_cons_succ, Array.getInternal_eq_getElem, List.setIfInBounds_toArray, List.set_cons_zero, List.set_cons_succ])
  refine wpAnyH_take (i := 2) (v := ?_) rfl (by kernel_rfl) (by kernel_rfl) (by kernel_rfl) (fun _ _ _ h => h) (Or.inl ⟨by rfl, ?_⟩) (by assumption) ?_
  rotate_left
  · intro w hSw; (try dsimp only at hSw); go_simp; (try with_reducible rfl)
  (try simp only [Act.put, List.getElem_toArray, List.getElem_cons_zero, List.getElem_cons_succ, Array.getInternal_eq_getElem, List.setIfInBounds_toArray, List.set_cons_zero, List.set_cons_succ])
  refine wpAnyH_take (i := 3) (v := ?_) rfl (by kernel_rfl) (by kernel_rfl) (by kernel_rfl) (fun _ _ _ h => h) (Or.inl ⟨by rfl, ?_⟩) (by assumption) ?_
  rotate_left
  · intro w hSw; (try dsimp only at hSw); go_simp; (try with_reducible rfl)
  (try simp only [Act.put, List.getElem_toArray, List.getElem_cons_zero, List.getElem_cons_succ, Array.getInternal_eq_getElem, List.setIfInBounds_toArray, List.set_cons_zero, List.set_cons_succ])
  refine wpAnyH_take (i := 5) (v := ?_) rfl (by kernel_rfl) (by kernel_rfl) (by kernel_rfl) (fun _ _ _ h => h) (Or.inl ⟨by rfl, ?_⟩) (by assumption) ?_
  rotate_left
  · intro w hSw; (try dsimp only at hSw); go_simp; (try with_reducible rfl)
  (try simp only [Act.put, List.getElem_toArray, List.getElem_cons_zero, List.getElem_cons_succ, Array.getInternal_eq_getElem, List.setIfInBounds_toArray, List.set_cons_zero, List.set_cons_succ])
  refine wpAnyH_ready (rs := [4, 6]) (by kernel_rfl) (by simp) ?_
  refine AllReadyH.cons rfl (fun K hK => ?_) (AllReadyH.cons rfl (fun K hK => ?_) (AllReadyH.nil))
  · -- 4 first
    go_simp
    refine hK.out _ _ trivial (fun hHeld => ?_)
    clear hK K
    (try simp only [Act.put, List.getElem_toArray, List.getElem_cons_zero, List.getElem_cons_succ, Array.getInternal_eq_getElem, List.setIfInBounds_toArray, List.set_cons_zero, List.set_cons_succ])
    refine wpAnyH_ready (rs := [6]) (by kernel_rfl) (by simp) ?_
    refine AllReadyH.cons rfl (fun K hK => ?_) AllReadyH.nil
    go_simp
    refine hK.out _ _ trivial (fun hHeld => ?_)
    clear hK K
    (try simp only [Act.put, List.getElem_toArray, List.getElem_cons_zero, List.getElem_cons_succ, Array.getInternal_eq_getElem, List.setIfInBounds_toArray, List.set_cons_zero, List.set_cons_succ])
    refine wpAnyH_ready (rs := [7]) (by kernel_rfl) (by simp) ?_
    refine AllReadyH.cons rfl (fun K hK => ?_) AllReadyH.nil
    go_simp
    refine (HAL.out Xs HXs.out).mono ?_
    rintro e X2 ⟨vm2, rfl, hom, hb⟩
    obtain ⟨An, cn, rfl⟩ := own_slice (n := s.mem.length) (show X2.ownsRow _ _ 1 vm2 s.mem.length _ from by have e := hom; unfold OwnI at e; rwa [BfM.all_len] at e)
    have HOM := Lib.hid (show OwnI w5.heap.size X2 (.slice An s.mem.length cn) (BfM.all xb s.mem) from own_base hom HXs.out.size)
    have HB2 := Lib.hid (show Below w5.heap.size w5 X2 from chain HXs.out hb)
    refine hK.out _ _ trivial (fun hHeld => ?_)
    clear hK K
    (try simp only [Act.put, List.getElem_toArray, List.getElem_cons_zero, List.getElem_cons_succ, Array.getInternal_eq_getElem, List.setIfInBounds_toArray, List.set_cons_zero, List.set_cons_succ])
    clear hb hom c0 t3
    have HQ2 := Lib.hid (HQ1.out.below HB2.out HQ1.out.lt)
    have HBV2 := Lib.hid (HBV.out.below HB2.out HBV.out.lt)
    have g2 := HQ2.out.frozen 0
    have o2 := HQ2.out.cell 0 _ rfl
    refine wpAnyH_take (i := 8) (v := ?_) rfl (by kernel_rfl) (by kernel_rfl) (by kernel_rfl) (fun _ _ _ h => h) (Or.inl ⟨by rfl, ?_⟩) (by assumption) ?_
    rotate_left
    · intro w hSw; (try dsimp only at hSw); go_simp; (try with_reducible rfl)
    (try simp only [Act.put, List.getElem_toArray, List.getElem_cons_zero, List.getElem_cons_succ, Array.getInternal_eq_getElem, List.setIfInBounds_toArray, List.set_cons_zero, List.set_cons_succ])
    refine wpAnyH_ready (rs := [9]) (by kernel_rfl) (by simp) ?_
    refine AllReadyH.cons rfl (fun K hK => ?_) AllReadyH.nil
    go_simp
    refine hK.out _ _ trivial (fun hHeld => ?_)
    clear hK K
    (try simp only [Act.put, List.getElem_toArray, List.getElem_cons_zero, List.getElem_cons_succ, Array.getInternal_eq_getElem, List.setIfInBounds_toArray, List.set_cons_zero, List.set_cons_succ])
    obtain ⟨X4, hX4⟩ : ∃ W, W = X2.setCell ⟨go, 0, none⟩ (.slice An s.mem.length cn) := ⟨_, rfl⟩
    have HQ4 := Lib.hid (show BoxC X4 go 28 #[.slice An s.mem.length cn, .slice (some ⟨gt, 0, none⟩) s.ths.length cv] from by rw [hX4]; exact HQ2.out.set 0 _)
    have HRR4 := Lib.hid (show BoxC X4 gr 28 #[.slice none 0 0, .slice none 0 0] from by rw [hX4]; exact (HRR.out.below HB2.out HRR.out.lt).other HGG.out _ _)
    have HO4 := Lib.hid (show OwnSt W3.heap.size X4 (.slice An s.mem.length cn) (.slice (some ⟨gt, 0, none⟩) s.ths.length cv) ⟨BfM.all xb s.mem, s.ths⟩ ps from by rw [hX4]; exact ((HOS.out.below HB2.out).memRow (own_base HOM.out HL3.out.size) (fun p hp => ap_symm (ap_new (HOS.out.each p hp).1 HOM.out (Nat.le_refl _)))).box HQ2.out (by decide) (by decide) (by decide) 0 _)
    have HBV4 := Lib.hid (show BoxC X4 gt 43 _ from by rw [hX4]; exact HBV2.out.other (HBV2.out.unlike HQ2.out (by decide)) _ _)
    have HB4 := Lib.hid (show Below w.heap.size w X4 from by rw [hX4]; exact (chain HBF.out HB2.out).setCell (p := ⟨go, 0, none⟩) (Nat.le_trans HB3.out.size HGO3.out) _)
    have e4 : X4.cell? ⟨gt, k * 4 + 3, none⟩ = some (.slice Ab xb.length cb) := by rw [hX4]; exact st_ne (HBV2.out.unlike HQ2.out (by decide)) (kc HB2.out HT3.out)
    rw [← hX4]
    clear hX4 g2 o2
    have v4 := HBV4.out.frozen (k * 4 + 3)
    refine wpAnyH_take (i := 10) (v := ?_) rfl (by kernel_rfl) (by kernel_rfl) (by kernel_rfl) (fun _ _ _ h => h) (Or.inl ⟨by rfl, ?_⟩) (by assumption) ?_
    rotate_left
    · intro w hSw; (try dsimp only at hSw); go_simp; (try with_reducible rfl)
    (try simp only [Act.put, List.getElem_toArray, List.getElem_cons_zero, List.getElem_cons_succ, Array.getInternal_eq_getElem, List.setIfInBounds_toArray, List.set_cons_zero, List.set_cons_succ])
    refine wpAnyH_take (i := 11) (v := ?_) rfl (by kernel_rfl) (by kernel_rfl) (by kernel_rfl) (fun _ _ _ h => h) (Or.inl ⟨by rfl, ?_⟩) (by assumption) ?_
    rotate_left
    · intro w hSw; (try dsimp only at hSw); go_simp; (try with_reducible rfl)
    (try simp only [Act.put, List.getElem_toArray, List.getElem_cons_zero, List.getElem_cons_succ, Array.getInternal_eq_getElem, List.setIfInBounds_toArray, List.set_cons_zero, List.set_cons_succ])
    refine wpAnyH_ready (rs := [12]) (by kernel_rfl) (by simp) ?_
    refine AllReadyH.cons rfl (fun K hK => ?_) AllReadyH.nil
    go_simp
    refine hK.out _ _ trivial (fun hHeld => ?_)
    clear hK K
    (try simp only [Act.put, List.getElem_toArray, List.getElem_cons_zero, List.getElem_cons_succ, Array.getInternal_eq_getElem, List.setIfInBounds_toArray, List.set_cons_zero, List.set_cons_succ])
    obtain ⟨X5, hX5⟩ : ∃ W, W = X4.setCell ⟨gt, k * 4 + 3, none⟩ (.slice none 0 0) := ⟨_, rfl⟩
    have HQ5 := Lib.hid (show BoxC X5 go 28 #[.slice An s.mem.length cn, .slice (some ⟨gt, 0, none⟩) s.ths.length cv] from by rw [hX5]; exact HQ4.out.other (HQ4.out.unlike HBV4.out (by decide)) _ _)
    have HRR5 := Lib.hid (show BoxC X5 gr 28 #[.slice none 0 0, .slice none 0 0] from by rw [hX5]; exact HRR4.out.other (HRR4.out.unlike HBV4.out (by decide)) _ _)
    have HO5 := Lib.hid (show OwnSt W3.heap.size X5 (.slice An s.mem.length cn) (.slice (some ⟨gt, 0, none⟩) s.ths.length cv) (flu s (k : Int)) (ps.set k ⟨⟨xa, xr, xe, []⟩, vr, .slice none 0 0⟩) from by rw [hX5]; exact (HO4.out.setVB' (b := []) HPK.out (World.ownsRow_nil _ _ _ _)).cast HFE.out.symm)
    have HB5 := Lib.hid (show Below w.heap.size w X5 from by rw [hX5]; exact HB4.out.setCell (p := ⟨gt, k * 4 + 3, none⟩) (Nat.le_trans HB3.out.size HGT.out) _)
    rw [← hX5]
    clear hX5 v4 e4
    refine wpAnyH_done (by kernel_rfl) ?_ _
    have y0 := HQ5.out.cell 0 _ rfl
    have y1 := HQ5.out.cell 1 _ rfl
    have r0 := HRR5.out.cell 0 _ rfl
    have r1 := HRR5.out.cell 1 _ rfl
    have f0 := HRR5.out.frozen 0
    have f1 := HRR5.out.frozen 1
    obtain ⟨W9, hW9⟩ : ∃ W, W = (X5.setCell ⟨gr, 0, none⟩ (.slice An s.mem.length cn)).setCell ⟨gr, 1, none⟩ (.slice (some ⟨gt, 0, none⟩) s.ths.length cv) := ⟨_, rfl⟩
    have HR9 := Lib.hid (show BoxC W9 gr 28 #[(.slice An s.mem.length cn), (.slice (some ⟨gt, 0, none⟩) s.ths.length cv)] from by rw [hW9]; exact (HRR5.out.set 0 _).set 1 _)
    have HO9 := Lib.hid (show OwnSt W3.heap.size W9 (.slice An s.mem.length cn) (.slice (some ⟨gt, 0, none⟩) s.ths.length cv) (flu s (k : Int)) (ps.set k ⟨⟨xa, xr, xe, []⟩, vr, .slice none 0 0⟩) from by
      rw [hW9]
      exact (HO5.out.box HRR5.out (by decide) (by decide) (by decide) 0 _).box (HRR5.out.set 0 _) (by decide) (by decide) (by decide) 1 _)
    have HB9 := Lib.hid (show Below w.heap.size w W9 from by rw [hW9]; exact (HB5.out.setCell (p := ⟨gr, 0, none⟩) HGR.out _).setCell (p := ⟨gr, 1, none⟩) HGR.out _)
    have HW9 := Lib.hid hW9
    clear hW9
    go_wp2_with fail
    rw [← HW9.out]
    clear r0 r1 f0 f1
    have r0 := HR9.out.cell 0 _ rfl
    have r1 := HR9.out.cell 1 _ rfl
    have hz := HCO.out
    refine bodyPost_ret (v := .agg #[(.slice An s.mem.length cn), (.slice (some ⟨gt, 0, none⟩) s.ths.length cv)]) (by simp [results, Try.results17, go_sem, r0, r1, hz]) rfl ⟨_, _, _, rfl, HO9.out.base HB3.out.size, HB9.out⟩
  · -- 6 first
    go_simp
    refine hK.out _ _ trivial (fun hHeld => ?_)
    clear hK K
    (try simp only [Act.put, List.getElem_toArray, List.getElem_cons_zero, List.getElem_cons_succ, Array.getInternal_eq_getElem, List.setIfInBounds_toArray, List.set_cons_zero, List.set_cons_succ])
    refine wpAnyH_ready (rs := [4]) (by kernel_rfl) (by simp) ?_
    refine AllReadyH.cons rfl (fun K hK => ?_) AllReadyH.nil
    go_simp
    refine hK.out _ _ trivial (fun hHeld => ?_)
    clear hK K
    (try simp only [Act.put, List.getElem_toArray, List.getElem_cons_zero, List.getElem_cons_succ, Array.getInternal_eq_getElem, List.setIfInBounds_toArray, List.set_cons_zero, List.set_cons_succ])
    refine wpAnyH_ready (rs := [7]) (by kernel_rfl) (by simp) ?_
    refine AllReadyH.cons rfl (fun K hK => ?_) AllReadyH.nil
    go_simp
    refine (HAL.out Xs HXs.out).mono ?_
    rintro e X2 ⟨vm2, rfl, hom, hb⟩
    obtain ⟨An, cn, rfl⟩ := own_slice (n := s.mem.length) (show X2.ownsRow _ _ 1 vm2 s.mem.length _ from by have e := hom; unfold OwnI at e; rwa [BfM.all_len] at e)
    have HOM := Lib.hid (show OwnI w5.heap.size X2 (.slice An s.mem.length cn) (BfM.all xb s.mem) from own_base hom HXs.out.size)
    have HB2 := Lib.hid (show Below w5.heap.size w5 X2 from chain HXs.out hb)
    refine hK.out _ _ trivial (fun hHeld => ?_)
    clear hK K
    (try simp only [Act.put, List.getElem_toArray, List.getElem_cons_zero, List.getElem_cons_succ, Array.getInternal_eq_getElem, List.setIfInBounds_toArray, List.set_cons_zero, List.set_cons_succ])
    clear hb hom c0 t3
    have HQ2 := Lib.hid (HQ1.out.below HB2.out HQ1.out.lt)
    have HBV2 := Lib.hid (HBV.out.below HB2.out HBV.out.lt)
    have g2 := HQ2.out.frozen 0
    have o2 := HQ2.out.cell 0 _ rfl
    refine wpAnyH_take (i := 8) (v := ?_) rfl (by kernel_rfl) (by kernel_rfl) (by kernel_rfl) (fun _ _ _ h => h) (Or.inl ⟨by rfl, ?_⟩) (by assumption) ?_
    rotate_left
    · intro w hSw; (try dsimp only at hSw); go_simp; (try with_reducible rfl)
    (try simp only [Act.put, List.getElem_toArray, List.getElem_cons_zero, List.getElem_cons_succ, Array.getInternal_eq_getElem, List.setIfInBounds_toArray, List.set_cons_zero, List.set_cons_succ])
    refine wpAnyH_ready (rs := [9]) (by kernel_rfl) (by simp) ?_
    refine AllReadyH.cons rfl (fun K hK => ?_) AllReadyH.nil
    go_simp
    refine hK.out _ _ trivial (fun hHeld => ?_)
    clear hK K
    (try simp only [Act.put, List.getElem_toArray, List.getElem_cons_zero, List.getElem_cons_succ, Array.getInternal_eq_getElem, List.setIfInBounds_toArray, List.set_cons_zero, List.set_cons_succ])
    obtain ⟨X4, hX4⟩ : ∃ W, W = X2.setCell ⟨go, 0, none⟩ (.slice An s.mem.length cn) := ⟨_, rfl⟩
    have HQ4 := Lib.hid (show BoxC X4 go 28 #[.slice An s.mem.length cn, .slice (some ⟨gt, 0, none⟩) s.ths.length cv] from by rw [hX4]; exact HQ2.out.set 0 _)
    have HRR4 := Lib.hid (show BoxC X4 gr 28 #[.slice none 0 0, .slice none 0 0] from by rw [hX4]; exact (HRR.out.below HB2.out HRR.out.lt).other HGG.out _ _)
    have HO4 := Lib.hid (show OwnSt W3.heap.size X4 (.slice An s.mem.length cn) (.slice (some ⟨gt, 0, none⟩) s.ths.length cv) ⟨BfM.all xb s.mem, s.ths⟩ ps from by rw [hX4]; exact ((HOS.out.below HB2.out).memRow (own_base HOM.out HL3.out.size) (fun p hp => ap_symm (ap_new (HOS.out.each p hp).1 HOM.out (Nat.le_refl _)))).box HQ2.out (by decide) (by decide) (by decide) 0 _)
    have HBV4 := Lib.hid (show BoxC X4 gt 43 _ from by rw [hX4]; exact HBV2.out.other (HBV2.out.unlike HQ2.out (by decide)) _ _)
    have HB4 := Lib.hid (show Below w.heap.size w X4 from by rw [hX4]; exact (chain HBF.out HB2.out).setCell (p := ⟨go, 0, none⟩) (Nat.le_trans HB3.out.size HGO3.out) _)
    have e4 : X4.cell? ⟨gt, k * 4 + 3, none⟩ = some (.slice Ab xb.length cb) := by rw [hX4]; exact st_ne (HBV2.out.unlike HQ2.out (by decide)) (kc HB2.out HT3.out)
    rw [← hX4]
    clear hX4 g2 o2
    have v4 := HBV4.out.frozen (k * 4 + 3)
    refine wpAnyH_take (i := 10) (v := ?_) rfl (by kernel_rfl) (by kernel_rfl) (by kernel_rfl) (fun _ _ _ h => h) (Or.inl ⟨by rfl, ?_⟩) (by assumption) ?_
    rotate_left
    · intro w hSw; (try dsimp only at hSw); go_simp; (try with_reducible rfl)
    (try simp only [Act.put, List.getElem_toArray, List.getElem_cons_zero, List.getElem_cons_succ, Array.getInternal_eq_getElem, List.setIfInBounds_toArray, List.set_cons_zero, List.set_cons_succ])
    refine wpAnyH_take (i := 11) (v := ?_) rfl (by kernel_rfl) (by kernel_rfl) (by kernel_rfl) (fun _ _ _ h => h) (Or.inl ⟨by rfl, ?_⟩) (by assumption) ?_
    rotate_left
    · intro w hSw; (try dsimp only at hSw); go_simp; (try with_reducible rfl)
    (try simp only [Act.put, List.getElem_toArray, List.getElem_cons_zero, List.getElem_cons_succ, Array.getInternal_eq_getElem, List.setIfInBounds_toArray, List.set_cons_zero, List.set_cons_succ])
    refine wpAnyH_ready (rs := [12]) (by kernel_rfl) (by simp) ?_
    refine AllReadyH.cons rfl (fun K hK => ?_) AllReadyH.nil
    go_simp
    refine hK.out _ _ trivial (fun hHeld => ?_)
    clear hK K
    (try simp only [Act.put, List.getElem_toArray, List.getElem_cons_zero, List.getElem_cons_succ, Array.getInternal_eq_getElem, List.setIfInBounds_toArray, List.set_cons_zero, List.set_cons_succ])
    obtain ⟨X5, hX5⟩ : ∃ W, W = X4.setCell ⟨gt, k * 4 + 3, none⟩ (.slice none 0 0) := ⟨_, rfl⟩
    have HQ5 := Lib.hid (show BoxC X5 go 28 #[.slice An s.mem.length cn, .slice (some ⟨gt, 0, none⟩) s.ths.length cv] from by rw [hX5]; exact HQ4.out.other (HQ4.out.unlike HBV4.out (by decide)) _ _)
    have HRR5 := Lib.hid (show BoxC X5 gr 28 #[.slice none 0 0, .slice none 0 0] from by rw [hX5]; exact HRR4.out.other (HRR4.out.unlike HBV4.out (by decide)) _ _)
    have HO5 := Lib.hid (show OwnSt W3.heap.size X5 (.slice An s.mem.length cn) (.slice (some ⟨gt, 0, none⟩) s.ths.length cv) (flu s (k : Int)) (ps.set k ⟨⟨xa, xr, xe, []⟩, vr, .slice none 0 0⟩) from by rw [hX5]; exact (HO4.out.setVB' (b := []) HPK.out (World.ownsRow_nil _ _ _ _)).cast HFE.out.symm)
    have HB5 := Lib.hid (show Below w.heap.size w X5 from by rw [hX5]; exact HB4.out.setCell (p := ⟨gt, k * 4 + 3, none⟩) (Nat.le_trans HB3.out.size HGT.out) _)
    rw [← hX5]
    clear hX5 v4 e4
    refine wpAnyH_done (by kernel_rfl) ?_ _
    have y0 := HQ5.out.cell 0 _ rfl
    have y1 := HQ5.out.cell 1 _ rfl
    have r0 := HRR5.out.cell 0 _ rfl
    have r1 := HRR5.out.cell 1 _ rfl
    have f0 := HRR5.out.frozen 0
    have f1 := HRR5.out.frozen 1
    obtain ⟨W9, hW9⟩ : ∃ W, W = (X5.setCell ⟨gr, 0, none⟩ (.slice An s.mem.length cn)).setCell ⟨gr, 1, none⟩ (.slice (some ⟨gt, 0, none⟩) s.ths.length cv) := ⟨_, rfl⟩
    have HR9 := Lib.hid (show BoxC W9 gr 28 #[(.slice An s.mem.length cn), (.slice (some ⟨gt, 0, none⟩) s.ths.length cv)] from by rw [hW9]; exact (HRR5.out.set 0 _).set 1 _)
    have HO9 := Lib.hid (show OwnSt W3.heap.size W9 (.slice An s.mem.length cn) (.slice (some ⟨gt, 0, none⟩) s.ths.length cv) (flu s (k : Int)) (ps.set k ⟨⟨xa, xr, xe, []⟩, vr, .slice none 0 0⟩) from by
      rw [hW9]
      exact (HO5.out.box HRR5.out (by decide) (by decide) (by decide) 0 _).box (HRR5.out.set 0 _) (by decide) (by decide) (by decide) 1 _)
    have HB9 := Lib.hid (show Below w.heap.size w W9 from by rw [hW9]; exact (HB5.out.setCell (p := ⟨gr, 0, none⟩) HGR.out _).setCell (p := ⟨gr, 1, none⟩) HGR.out _)
    have HW9 := Lib.hid hW9
    clear hW9
    go_wp2_with fail
    rw [← HW9.out]
    clear r0 r1 f0 f1
    have r0 := HR9.out.cell 0 _ rfl
    have r1 := HR9.out.cell 1 _ rfl
    have hz := HCO.out
    refine bodyPost_ret (v := .agg #[(.slice An s.mem.length cn), (.slice (some ⟨gt, 0, none⟩) s.ths.length cv)]) (by simp [results, Try.results17, go_sem, r0, r1, hz]) rfl ⟨_, _, _, rfl, HO9.out.base HB3.out.size, HB9.out⟩
end Go.Proofs.Ytkbnppidkhbbeaa
