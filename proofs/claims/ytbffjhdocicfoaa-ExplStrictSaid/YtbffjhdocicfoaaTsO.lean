/-
  tso.own, tso.drained.
-/
import Derived.Test.YtbffjhdocicfoaaK16
import Derived.Test.YtbffjhdocicfoaaK27
import Derived.Test.YtbffjhdocicfoaaK21
import Derived.Test.YtbffjhdocicfoaaScPs
import Derived.Deep.RegionHeld3
import Derived.Deep.DeepCutAuto
namespace Go.Proofs.Ytbffjhdocicfoaa
open Go.RowKit
set_option linter.unusedVariables false
set_option linter.unusedSimpArgs false
open CodM (St Pg rightP hReg hLoc)
open BfM (Wr plc)
open ScM

set_option maxHeartbeats 8000000 in
set_option maxRecDepth 100000 in
theorem town_any {B : Nat} {v u : Value} {P : Pg} {s : Sta} (w : World) (hv : PgV B w v P) (hu : StaV B w u s) (hBB : B ≤ w.heap.size) (hp : rightP P = true) (ho : OkSt P s) (hw : WideS s) :
    Calls Try.prog 64 #[v, u] w (StRet s w) := by
  have HST := Lib.hid (fun W (hW : Below w.heap.size w W) => sstep_any (-1) W ((hv.below (hW.mono hBB)).more (Nat.le_trans hBB hW.size)) ((hu.below (hW.mono hBB)).more (Nat.le_trans hBB hW.size)) (Nat.le_refl _) hp ho hw)
  have HSE := Lib.hid (show stp P s (-1) = s from stp_no (atS_none (fun ⟨k, e, _⟩ => by omega)))
  have HAE := Lib.hid (show atS P s (-1) = none from atS_none (fun ⟨k, e, _⟩ => by omega))
  clear hp ho hw
  obtain ⟨pi, pt, rfl, hpm⟩ := hv
  obtain ⟨um, ut, rfl, hum⟩ := hu
  obtain ⟨⟨P0, d0, rfl, -⟩, ⟨P1, d1, rfl, l1, l2, l3⟩⟩ := hpm
  have HUM := Lib.hid hum.1
  obtain ⟨⟨A7, c7, rfl, -⟩, ⟨A1, c1, rfl, m1, m2, -, m3⟩⟩ := hum
  have HM3 := Lib.hid m3
  have HL3P := Lib.hid l3
  unfold maxLen at m2 l2
  clear m3 l3
  have HCO := Lib.hid (show Try.prog.cellsOf 62 = 2 from by kernel_rfl)
  obtain ⟨W3, hW3⟩ : ∃ W, W = ((w.alloc (.cells #[.slice P0 P.init.length d0, .slice P1 P.ths.length d1] 25)).alloc (.cells #[.slice A7 s.mem.length c7, .slice A1 s.ths.length c1] 62)).alloc (.cells #[.slice none 0 0, .slice none 0 0] 62) := ⟨_, rfl⟩
  obtain ⟨gp, hgp⟩ : ∃ g, g = w.heap.size := ⟨_, rfl⟩
  obtain ⟨gs, hgs⟩ : ∃ g, g = w.heap.size + 1 := ⟨_, rfl⟩
  obtain ⟨gr, hgr⟩ : ∃ g, g = w.heap.size + 1 + 1 := ⟨_, rfl⟩
  have HX := Lib.hid (show BoxC W3 gp 25 #[.slice P0 P.init.length d0, .slice P1 P.ths.length d1] from by rw [hW3, hgp]; exact ((BoxC.new w _ _).alloc _).alloc _)
  have HY := Lib.hid (show BoxC W3 gs 62 #[.slice A7 s.mem.length c7, .slice A1 s.ths.length c1] from by rw [hW3, hgs]; have := (BoxC.new (w.alloc (.cells #[.slice P0 P.init.length d0, .slice P1 P.ths.length d1] 25)) 62 #[.slice A7 s.mem.length c7, .slice A1 s.ths.length c1]).alloc (.cells #[.slice none 0 0, .slice none 0 0] 62); rw [World.size_alloc] at this; exact this)
  have HR := Lib.hid (show BoxC W3 gr 62 #[.slice none 0 0, .slice none 0 0] from by rw [hW3, hgr]; have := BoxC.new ((w.alloc (.cells #[.slice P0 P.init.length d0, .slice P1 P.ths.length d1] 25)).alloc (.cells #[.slice A7 s.mem.length c7, .slice A1 s.ths.length c1] 62)) 62 #[.slice none 0 0, .slice none 0 0]; rw [World.size_alloc, World.size_alloc] at this; exact this)
  have HB3 := Lib.hid (show Below w.heap.size w W3 from by rw [hW3]; exact below_al (below_al (below_al (Below.refl _ _) _) _) _)
  have HGR := Lib.hid (show w.heap.size ≤ gr from by omega)
  have HGS := Lib.hid (show gs < W3.heap.size from HY.out.lt)
  have x0 := HX.out.cell 0 _ rfl
  have x1 := HX.out.cell 1 _ rfl
  have y0 := HY.out.cell 0 _ rfl
  have y1 := HY.out.cell 1 _ rfl
  go_enter Try.func64, Try.ntmps64
  go_upto_region 1 with fail
  rw [← hW3]
  (try rw [← hgr])
  (try rw [← hgs])
  (try rw [← hgp])
  clear hW3 hgr hgs hgp
  go_wp2_with fail
  refine (HST.out _ HB3.out).mono ?_
  rintro e w1 ⟨vm, vt, ps, rfl, hos, hb1⟩
  rw [HAE.out]
  rw [HSE.out] at hos
  have HOS := Lib.hid hos
  have HB1 := Lib.hid hb1
  obtain ⟨Am, cm, rfl⟩ := own_slice hos.mem
  obtain ⟨Av, cv, rfl⟩ := own_slice hos.ths
  clear hos hb1
  clear HST x0 x1 y0 y1
  go_upto_region 2 with fail
  obtain ⟨X1, hX1⟩ : ∃ W, W = w1.alloc (.cells #[.slice Am s.mem.length cm, .slice Av s.ths.length cv] 62) := ⟨_, rfl⟩
  obtain ⟨go, hgo⟩ : ∃ g, g = w1.heap.size := ⟨_, rfl⟩
  have HQ1 := Lib.hid (show BoxC X1 go 62 #[.slice Am s.mem.length cm, .slice Av s.ths.length cv] from by rw [hX1, hgo]; exact BoxC.new w1 _ _)
  have HL1 := Lib.hid (show Below w1.heap.size w1 X1 from by rw [hX1]; exact below_al (Below.refl _ _) _)
  have HL3 := Lib.hid (chain HB1.out HL1.out)
  have HGO := Lib.hid (show gs < go from by rw [hgo]; exact Nat.lt_of_lt_of_le HGS.out HB1.out.size)
  have HGO3 := Lib.hid (show W3.heap.size ≤ go from by rw [hgo]; exact HB1.out.size)
  replace HOS := Lib.hid (HOS.out.below HL1.out)
  rw [← hX1]
  (try rw [← hgo])
  clear hX1 hgo HL1 HB1
  have HRR := Lib.hid (HR.out.below HL3.out HR.out.lt)
  have HBF := Lib.hid (chain HB3.out HL3.out)
  have y0 := HQ1.out.cell 0 _ rfl
  have y1 := HQ1.out.cell 1 _ rfl
  have r0 := HRR.out.cell 0 _ rfl
  have r1 := HRR.out.cell 1 _ rfl
  have f0 := HRR.out.frozen 0
  have f1 := HRR.out.frozen 1
  obtain ⟨W9, hW9⟩ : ∃ W, W = (X1.setCell ⟨gr, 0, none⟩ (.slice Am s.mem.length cm)).setCell ⟨gr, 1, none⟩ (.slice Av s.ths.length cv) := ⟨_, rfl⟩
  have HR9 := Lib.hid (show BoxC W9 gr 62 #[(.slice Am s.mem.length cm), (.slice Av s.ths.length cv)] from by rw [hW9]; exact (HRR.out.set 0 _).set 1 _)
  have HO9 := Lib.hid (show OwnSt W3.heap.size W9 (.slice Am s.mem.length cm) (.slice Av s.ths.length cv) (s) ps from by
    rw [hW9]
    exact (HOS.out.box HRR.out (by decide) (by decide) (by decide) 0 _).box (HRR.out.set 0 _) (by decide) (by decide) (by decide) 1 _)
  have HB9 := Lib.hid (show Below w.heap.size w W9 from by rw [hW9]; exact (HBF.out.setCell (p := ⟨gr, 0, none⟩) HGR.out _).setCell (p := ⟨gr, 1, none⟩) HGR.out _)
  have HW9 := Lib.hid hW9
  clear hW9
  go_wp2_with fail
  rw [← HW9.out]
  clear r0 r1 f0 f1
  have r0 := HR9.out.cell 0 _ rfl
  have r1 := HR9.out.cell 1 _ rfl
  have hz := HCO.out
  refine bodyPost_ret (v := .agg #[(.slice Am s.mem.length cm), (.slice Av s.ths.length cv)]) (by simp [results, Try.results64, go_sem, r0, r1, hz]) rfl ⟨_, _, _, rfl, HO9.out.base HB3.out.size, HB9.out⟩
set_option maxHeartbeats 8000000 in
set_option maxRecDepth 100000 in
theorem tdrained_any {B : Nat} {v u : Value} {P : Pg} {s : Sta} (k : Nat) {xa : Int} {xr : List Int} {xe : Bool} {xb : List Wr} (w : World) (hv : PgV B w v P) (hu : StaV B w u s) (hBB : B ≤ w.heap.size) (hp : rightP P = true) (ho : OkSt P s) (hw : WideS s) (hks : k < s.ths.length) (hth : s.ths[k] = ⟨xa, xr, xe, xb⟩) :
    Calls Try.prog 65 #[v, u, .int .i64 (k : Int)] w (StRet (drn s k ⟨xa, xr, xe, xb⟩) w) := by
  have HBL := Lib.hid (show xb.length ≤ 1000000 from by have := (hw.regs _ (List.getElem_mem hks)).2; rw [hth] at this; dsimp only at this; omega)
  have HOWN := Lib.hid (fun W (hW : Below w.heap.size w W) => town_any W ((hv.below (hW.mono hBB)).more (Nat.le_trans hBB hW.size)) ((hu.below (hW.mono hBB)).more (Nat.le_trans hBB hW.size)) (Nat.le_refl _) hp ho hw)
  have hwm := hw.mem
  clear hp ho hw
  obtain ⟨pi, pt, rfl, hpm⟩ := hv
  obtain ⟨um, ut, rfl, hum⟩ := hu
  obtain ⟨⟨P0, d0, rfl, -⟩, ⟨P1, d1, rfl, l1, l2, l3⟩⟩ := hpm
  have HUM := Lib.hid hum.1
  obtain ⟨⟨A7, c7, rfl, -⟩, ⟨A1, c1, rfl, m1, m2, -, m3⟩⟩ := hum
  have HM3 := Lib.hid m3
  have HL3P := Lib.hid l3
  unfold maxLen at m2 l2
  clear m3 l3
  have HCO := Lib.hid (show Try.prog.cellsOf 62 = 2 from by kernel_rfl)
  obtain ⟨W3, hW3⟩ : ∃ W, W = ((w.alloc (.cells #[.slice P0 P.init.length d0, .slice P1 P.ths.length d1] 25)).alloc (.cells #[.slice A7 s.mem.length c7, .slice A1 s.ths.length c1] 62)).alloc (.cells #[.slice none 0 0, .slice none 0 0] 62) := ⟨_, rfl⟩
  obtain ⟨gp, hgp⟩ : ∃ g, g = w.heap.size := ⟨_, rfl⟩
  obtain ⟨gs, hgs⟩ : ∃ g, g = w.heap.size + 1 := ⟨_, rfl⟩
  obtain ⟨gr, hgr⟩ : ∃ g, g = w.heap.size + 1 + 1 := ⟨_, rfl⟩
  have HX := Lib.hid (show BoxC W3 gp 25 #[.slice P0 P.init.length d0, .slice P1 P.ths.length d1] from by rw [hW3, hgp]; exact ((BoxC.new w _ _).alloc _).alloc _)
  have HY := Lib.hid (show BoxC W3 gs 62 #[.slice A7 s.mem.length c7, .slice A1 s.ths.length c1] from by rw [hW3, hgs]; have := (BoxC.new (w.alloc (.cells #[.slice P0 P.init.length d0, .slice P1 P.ths.length d1] 25)) 62 #[.slice A7 s.mem.length c7, .slice A1 s.ths.length c1]).alloc (.cells #[.slice none 0 0, .slice none 0 0] 62); rw [World.size_alloc] at this; exact this)
  have HR := Lib.hid (show BoxC W3 gr 62 #[.slice none 0 0, .slice none 0 0] from by rw [hW3, hgr]; have := BoxC.new ((w.alloc (.cells #[.slice P0 P.init.length d0, .slice P1 P.ths.length d1] 25)).alloc (.cells #[.slice A7 s.mem.length c7, .slice A1 s.ths.length c1] 62)) 62 #[.slice none 0 0, .slice none 0 0]; rw [World.size_alloc, World.size_alloc] at this; exact this)
  have HB3 := Lib.hid (show Below w.heap.size w W3 from by rw [hW3]; exact below_al (below_al (below_al (Below.refl _ _) _) _) _)
  have HGR := Lib.hid (show w.heap.size ≤ gr from by omega)
  have HGS := Lib.hid (show gs < W3.heap.size from HY.out.lt)
  have x0 := HX.out.cell 0 _ rfl
  have x1 := HX.out.cell 1 _ rfl
  have y0 := HY.out.cell 0 _ rfl
  have y1 := HY.out.cell 1 _ rfl
  go_enter Try.func65, Try.ntmps65
  go_upto_region 1 with fail
  rw [← hW3]
  (try rw [← hgr])
  (try rw [← hgs])
  (try rw [← hgp])
  clear hW3 hgr hgs hgp
  go_wp2_with fail
  refine (HOWN.out _ HB3.out).mono ?_
  rintro e w1 ⟨vm, vt, ps, rfl, hos, hb1⟩
  have HOS := Lib.hid hos
  have HB1 := Lib.hid hb1
  obtain ⟨Am, cm, rfl⟩ := own_slice hos.mem
  obtain ⟨Av, cv, rfl⟩ := own_slice hos.ths
  clear hos hb1
  clear HOWN x0 x1 y0 y1
  go_upto_region 2 with fail
  obtain ⟨X1, hX1⟩ : ∃ W, W = w1.alloc (.cells #[.slice Am s.mem.length cm, .slice Av s.ths.length cv] 62) := ⟨_, rfl⟩
  obtain ⟨go, hgo⟩ : ∃ g, g = w1.heap.size := ⟨_, rfl⟩
  have HQ1 := Lib.hid (show BoxC X1 go 62 #[.slice Am s.mem.length cm, .slice Av s.ths.length cv] from by rw [hX1, hgo]; exact BoxC.new w1 _ _)
  have HL1 := Lib.hid (show Below w1.heap.size w1 X1 from by rw [hX1]; exact below_al (Below.refl _ _) _)
  have HL3 := Lib.hid (chain HB1.out HL1.out)
  have HGO := Lib.hid (show gs < go from by rw [hgo]; exact Nat.lt_of_lt_of_le HGS.out HB1.out.size)
  have HGO3 := Lib.hid (show W3.heap.size ≤ go from by rw [hgo]; exact HB1.out.size)
  replace HOS := Lib.hid (HOS.out.below HL1.out)
  rw [← hX1]
  (try rw [← hgo])
  clear hX1 hgo HL1 HB1
  have HRR := Lib.hid (HR.out.below HL3.out HR.out.lt)
  have HBF := Lib.hid (chain HB3.out HL3.out)
  have HRW := Lib.hid HR.out.lt
  obtain ⟨vr, vb, hpk⟩ := HOS.out.pk hks
  rw [hth] at hpk
  have HPK' := Lib.hid hpk
  obtain ⟨hkp, hpe⟩ := List.getElem?_eq_some_iff.1 hpk
  obtain ⟨gt, cv', cur, hev, hgt, hbv, t0, t1, t2, t3⟩ := HOS.out.row hkp
  injection hev with hev1 hev3 hev2
  clear hev3
  subst hev1 hev2
  rw [hpe] at t1 t3
  have HOE := Lib.hid (HOS.out.each _ (List.getElem_mem hkp))
  rw [hpe] at HOE
  have HBV := Lib.hid hbv
  have HGT := Lib.hid hgt
  clear hbv hgt hpe
  have c0 := HQ1.out.cell 0 _ rfl
  have c1 := HQ1.out.cell 1 _ rfl
  go_upto_region 3 with fail
  clear t0 t1 t2 c1
  dsimp only at HOE t3
  obtain ⟨Ab, cb, rfl⟩ := own_slice HOE.out.2.1
  have HDR := Lib.hid (fun W (hW' : Below X1.heap.size X1 W) => bdrain_any W (Rw.own (own_below HOE.out.2.1 hW') (Nat.le_refl _)) (Rw.own (own_below HOS.out.mem hW') (Nat.le_refl _)) (Nat.le_refl _) HBL.out (by omega))
  have HPK := HPK'
  refine wp_region_held_drew (S := (fun _ => True)) (by kernel_rfl) trivial (fun hHeld => ?_)
  obtain ⟨Xs, hXs⟩ : ∃ W, W = X1.drew := ⟨_, rfl⟩
  have HXs := Lib.hid (show Below X1.heap.size X1 Xs from by rw [hXs]; exact below_drewN (Below.refl _ _) 1)
  rw [← hXs]
  clear hXs
  have HT3 := Lib.hid t3
  replace t3 := kc HXs.out t3
  replace c0 := kc HXs.out c0
  refine wpAnyH_take (i := 0) (v := ?_) rfl (by kernel_rfl) (by kernel_rfl) (by kernel_rfl) (fun _ _ _ h => h) (Or.inl ⟨by rfl, ?_⟩) (by assumption) ?_
  rotate_left
  · intro w hSw; (try dsimp only at hSw); go_simp; (try with_reducible rfl)
  (try simp only [Act.put, pt8])
  refine wpAnyH_take (i := 1) (v := ?_) rfl (by kernel_rfl) (by kernel_rfl) (by kernel_rfl) (fun _ _ _ h => h) (Or.inl ⟨by rfl, ?_⟩) (by assumption) ?_
  rotate_left
  · intro w hSw; (try dsimp only at hSw); go_simp; (try with_reducible rfl)
  (try simp only [Act.put, pt8])
  refine wpAnyH_take (i := 2) (v := ?_) rfl (by kernel_rfl) (by kernel_rfl) (by kernel_rfl) (fun _ _ _ h => h) (Or.inl ⟨by rfl, ?_⟩) (by assumption) ?_
  rotate_left
  · intro w hSw; (try dsimp only at hSw); go_simp; (try with_reducible rfl)
  (try simp only [Act.put, pt8])
  refine wpAnyH_take (i := 3) (v := ?_) rfl (by kernel_rfl) (by kernel_rfl) (by kernel_rfl) (fun _ _ _ h => h) (Or.inl ⟨by rfl, ?_⟩) (by assumption) ?_
  rotate_left
  · intro w hSw; (try dsimp only at hSw); go_simp; (try with_reducible rfl)
  (try simp only [Act.put, pt8])
  refine wpAnyH_take (i := 5) (v := ?_) rfl (by kernel_rfl) (by kernel_rfl) (by kernel_rfl) (fun _ _ _ h => h) (Or.inl ⟨by rfl, ?_⟩) (by assumption) ?_
  rotate_left
  · intro w hSw; (try dsimp only at hSw); go_simp; (try with_reducible rfl)
  (try simp only [Act.put, pt8])
  refine wpAnyH_ready (rs := [4, 6]) (by kernel_rfl) (by simp) ?_
  refine AllReadyH.cons rfl (fun K hK => ?_) (AllReadyH.cons rfl (fun K hK => ?_) (AllReadyH.nil))
  · -- 4 first
    go_simp
    refine hK.out _ _ trivial (fun hHeld => ?_)
    clear hK K
    (try simp only [Act.put, pt8])
    refine wpAnyH_ready (rs := [6]) (by kernel_rfl) (by simp) ?_
    refine AllReadyH.cons rfl (fun K hK => ?_) AllReadyH.nil
    go_simp
    refine hK.out _ _ trivial (fun hHeld => ?_)
    clear hK K
    (try simp only [Act.put, pt8])
    refine wpAnyH_ready (rs := [7]) (by kernel_rfl) (by simp) ?_
    refine AllReadyH.cons rfl (fun K hK => ?_) AllReadyH.nil
    go_simp
    refine (HDR.out Xs HXs.out).mono ?_
    rintro e X2 ⟨vb2, vm2, n1, rfl, hn1, hob, hom, hyb, hb⟩
    obtain ⟨An, cn, rfl⟩ := own_slice (n := s.mem.length) (show X2.ownsRow _ _ 1 vm2 s.mem.length _ from by have e := hom; unfold OwnI at e; rwa [drM_len] at e)
    have HOM := Lib.hid (show OwnI X1.heap.size X2 (.slice An s.mem.length cn) (drM xb s.mem) from own_base hom HXs.out.size)
    have HOB := Lib.hid (show OwnW X1.heap.size X2 vb2 (drB xb s.mem) from own_base hob (Nat.le_trans HXs.out.size hn1))
    have HB2 := Lib.hid (show Below X1.heap.size X1 X2 from chain HXs.out hb)
    obtain ⟨Bn, bn, rfl⟩ := own_slice (show X2.ownsRow _ _ 2 vb2 (drB xb s.mem).length _ from hob)
    refine hK.out _ _ trivial (fun hHeld => ?_)
    clear hK K
    (try simp only [Act.put, pt8])
    clear hb hom hob hyb hn1 c0 t3
    have HQ2 := Lib.hid (HQ1.out.below HB2.out HQ1.out.lt)
    have HBV2 := Lib.hid (HBV.out.below HB2.out HBV.out.lt)
    have HNE := Lib.hid (HQ2.out.unlike HBV2.out (by decide))
    have v3 := HBV2.out.frozen (k * 4 + 3)
    have e5 := kc HB2.out HT3.out
    refine wpAnyH_take (i := 8) (v := ?_) rfl (by kernel_rfl) (by kernel_rfl) (by kernel_rfl) (fun _ _ _ h => h) (Or.inl ⟨by rfl, ?_⟩) (by assumption) ?_
    rotate_left
    · intro w hSw; (try dsimp only at hSw); go_simp; (try with_reducible rfl)
    (try simp only [Act.put, pt8])
    refine wpAnyH_take (i := 9) (v := ?_) rfl (by kernel_rfl) (by kernel_rfl) (by kernel_rfl) (fun _ _ _ h => h) (Or.inl ⟨by rfl, ?_⟩) (by assumption) ?_
    rotate_left
    · intro w hSw; (try dsimp only at hSw); go_simp; (try with_reducible rfl)
    (try simp only [Act.put, pt8])
    refine wpAnyH_take (i := 10) (v := ?_) rfl (by kernel_rfl) (by kernel_rfl) (by kernel_rfl) (fun _ _ _ h => h) (Or.inl ⟨by rfl, ?_⟩) (by assumption) ?_
    rotate_left
    · intro w hSw; (try dsimp only at hSw); go_simp; (try with_reducible rfl)
    (try simp only [Act.put, pt8])
    refine wpAnyH_take (i := 11) (v := ?_) rfl (by kernel_rfl) (by kernel_rfl) (by kernel_rfl) (fun _ _ _ h => h) (Or.inl ⟨by rfl, ?_⟩) (by assumption) ?_
    rotate_left
    · intro w hSw; (try dsimp only at hSw); go_simp; (try with_reducible rfl)
    (try simp only [Act.put, pt8])
    refine wpAnyH_take (i := 12) (v := ?_) rfl (by kernel_rfl) (by kernel_rfl) (by kernel_rfl) (fun _ _ _ h => h) (Or.inl ⟨by rfl, ?_⟩) (by assumption) ?_
    rotate_left
    · intro w hSw; (try dsimp only at hSw); go_simp; (try with_reducible rfl)
    (try simp only [Act.put, pt8])
    refine wpAnyH_take (i := 13) (v := ?_) rfl (by kernel_rfl) (by kernel_rfl) (by kernel_rfl) (fun _ _ _ h => h) (Or.inl ⟨by rfl, ?_⟩) (by assumption) ?_
    rotate_left
    · intro w hSw; (try dsimp only at hSw); go_simp; (try with_reducible rfl)
    (try simp only [Act.put, pt8])
    refine wpAnyH_ready (rs := [14]) (by kernel_rfl) (by simp) ?_
    refine AllReadyH.cons rfl (fun K hK => ?_) AllReadyH.nil
    go_simp
    refine hK.out _ _ trivial (fun hHeld => ?_)
    clear hK K
    (try simp only [Act.put, pt8])
    obtain ⟨X4, hX4⟩ : ∃ W, W = X2.setCell ⟨gt, k * 4 + 3, none⟩ (.slice Bn (drB xb s.mem).length bn) := ⟨_, rfl⟩
    have HQ4 := Lib.hid (show BoxC X4 go 62 #[.slice Am s.mem.length cm, .slice (some ⟨gt, 0, none⟩) s.ths.length cv] from by rw [hX4]; exact HQ2.out.other HNE.out _ _)
    have HO4 := Lib.hid (show OwnSt W3.heap.size X4 (.slice Am s.mem.length cm) (.slice (some ⟨gt, 0, none⟩) s.ths.length cv) ⟨s.mem, s.ths.set k ⟨xa, xr, xe, drB xb s.mem⟩⟩ (ps.set k ⟨⟨xa, xr, xe, drB xb s.mem⟩, vr, .slice Bn (drB xb s.mem).length bn⟩) from by rw [hX4]; exact (HOS.out.below HB2.out).setVB' HPK.out (own_base HOB.out HL3.out.size))
    have HM4 := Lib.hid (show OwnI X1.heap.size X4 (.slice An s.mem.length cn) (drM xb s.mem) from by rw [hX4]; exact own_box HOM.out HBV2.out (by decide) _ _)
    have HB4 := Lib.hid (show Below w.heap.size w X4 from by rw [hX4]; exact (chain HBF.out HB2.out).setCell (p := ⟨gt, k * 4 + 3, none⟩) (Nat.le_trans HB3.out.size HGT.out) _)
    have HRR2 := Lib.hid (HRR.out.below HB2.out HRR.out.lt)
    have HRR4 := Lib.hid (show BoxC X4 gr 62 #[.slice none 0 0, .slice none 0 0] from by rw [hX4]; exact HRR2.out.other (HRR2.out.unlike HBV2.out (by decide)) _ _)
    have HAP := Lib.hid (show ∀ p ∈ (ps.set k ⟨⟨xa, xr, xe, drB xb s.mem⟩, vr, .slice Bn (drB xb s.mem).length bn⟩), Ap (.slice An s.mem.length cn) p.vr from fun p hp => by
      rcases List.mem_or_eq_of_mem_set hp with hp | rfl
      · exact ap_symm (ap_new (HOS.out.each p hp).1 HOM.out (Nat.le_refl _))
      · exact ap_symm (ap_new HOE.out.1 HOM.out (Nat.le_refl _)))
    rw [← hX4]
    clear hX4 v3 e5
    have g4 := HQ4.out.frozen 0
    have o4 := HQ4.out.cell 0 _ rfl
    refine wpAnyH_take (i := 15) (v := ?_) rfl (by kernel_rfl) (by kernel_rfl) (by kernel_rfl) (fun _ _ _ h => h) (Or.inl ⟨by rfl, ?_⟩) (by assumption) ?_
    rotate_left
    · intro w hSw; (try dsimp only at hSw); go_simp; (try with_reducible rfl)
    (try simp only [Act.put, pt8])
    refine wpAnyH_ready (rs := [16]) (by kernel_rfl) (by simp) ?_
    refine AllReadyH.cons rfl (fun K hK => ?_) AllReadyH.nil
    go_simp
    refine hK.out _ _ trivial (fun hHeld => ?_)
    clear hK K
    (try simp only [Act.put, pt8])
    obtain ⟨X5, hX5⟩ : ∃ W, W = X4.setCell ⟨go, 0, none⟩ (.slice An s.mem.length cn) := ⟨_, rfl⟩
    have HQ5 := Lib.hid (show BoxC X5 go 62 #[.slice An s.mem.length cn, .slice (some ⟨gt, 0, none⟩) s.ths.length cv] from by rw [hX5]; exact HQ4.out.set 0 _)
    have HGG := Lib.hid (show gr ≠ go from by have := HRW.out; have := HGO3.out; omega)
    have HRR5 := Lib.hid (show BoxC X5 gr 62 #[.slice none 0 0, .slice none 0 0] from by rw [hX5]; exact HRR4.out.other HGG.out _ _)
    have HO5 := Lib.hid (show OwnSt W3.heap.size X5 (.slice An s.mem.length cn) (.slice (some ⟨gt, 0, none⟩) s.ths.length cv) (drn s k ⟨xa, xr, xe, xb⟩) (ps.set k ⟨⟨xa, xr, xe, drB xb s.mem⟩, vr, .slice Bn (drB xb s.mem).length bn⟩) from by rw [hX5]; exact (HO4.out.memRow (own_base HM4.out HL3.out.size) HAP.out).box HQ4.out (by decide) (by decide) (by decide) 0 _)
    have HB5 := Lib.hid (show Below w.heap.size w X5 from by rw [hX5]; exact HB4.out.setCell (p := ⟨go, 0, none⟩) (Nat.le_trans HB3.out.size HGO3.out) _)
    rw [← hX5]
    clear hX5 g4 o4
    refine wpAnyH_done (by kernel_rfl) ?_ _
    have y0 := HQ5.out.cell 0 _ rfl
    have y1 := HQ5.out.cell 1 _ rfl
    have r0 := HRR5.out.cell 0 _ rfl
    have r1 := HRR5.out.cell 1 _ rfl
    have f0 := HRR5.out.frozen 0
    have f1 := HRR5.out.frozen 1
    obtain ⟨W9, hW9⟩ : ∃ W, W = (X5.setCell ⟨gr, 0, none⟩ (.slice An s.mem.length cn)).setCell ⟨gr, 1, none⟩ (.slice (some ⟨gt, 0, none⟩) s.ths.length cv) := ⟨_, rfl⟩
    have HR9 := Lib.hid (show BoxC W9 gr 62 #[(.slice An s.mem.length cn), (.slice (some ⟨gt, 0, none⟩) s.ths.length cv)] from by rw [hW9]; exact (HRR5.out.set 0 _).set 1 _)
    have HO9 := Lib.hid (show OwnSt W3.heap.size W9 (.slice An s.mem.length cn) (.slice (some ⟨gt, 0, none⟩) s.ths.length cv) (drn s k ⟨xa, xr, xe, xb⟩) (ps.set k ⟨⟨xa, xr, xe, drB xb s.mem⟩, vr, .slice Bn (drB xb s.mem).length bn⟩) from by
      rw [hW9]
      exact (HO5.out.box HRR5.out (by decide) (by decide) (by decide) 0 _).box (HRR5.out.set 0 _) (by decide) (by decide) (by decide) 1 _)
    have HB9 := Lib.hid (show Below w.heap.size w W9 from by rw [hW9]; exact (HB5.out.setCell (p := ⟨gr, 0, none⟩) HGR.out _).setCell (p := ⟨gr, 1, none⟩) HGR.out _)
    have HW9 := Lib.hid hW9
    clear hW9
    go_wp2_with fail
    rw [← HW9.out]
    clear r0 r1 f0 f1
    have r0 := HR9.out.cell 0 _ rfl
    have r1 := HR9.out.cell 1 _ rfl
    have hz := HCO.out
    refine bodyPost_ret (v := .agg #[(.slice An s.mem.length cn), (.slice (some ⟨gt, 0, none⟩) s.ths.length cv)]) (by simp [results, Try.results65, go_sem, r0, r1, hz]) rfl ⟨_, _, _, rfl, HO9.out.base HB3.out.size, HB9.out⟩
  · -- 6 first
    go_simp
    refine hK.out _ _ trivial (fun hHeld => ?_)
    clear hK K
    (try simp only [Act.put, pt8])
    refine wpAnyH_ready (rs := [4]) (by kernel_rfl) (by simp) ?_
    refine AllReadyH.cons rfl (fun K hK => ?_) AllReadyH.nil
    go_simp
    refine hK.out _ _ trivial (fun hHeld => ?_)
    clear hK K
    (try simp only [Act.put, pt8])
    refine wpAnyH_ready (rs := [7]) (by kernel_rfl) (by simp) ?_
    refine AllReadyH.cons rfl (fun K hK => ?_) AllReadyH.nil
    go_simp
    refine (HDR.out Xs HXs.out).mono ?_
    rintro e X2 ⟨vb2, vm2, n1, rfl, hn1, hob, hom, hyb, hb⟩
    obtain ⟨An, cn, rfl⟩ := own_slice (n := s.mem.length) (show X2.ownsRow _ _ 1 vm2 s.mem.length _ from by have e := hom; unfold OwnI at e; rwa [drM_len] at e)
    have HOM := Lib.hid (show OwnI X1.heap.size X2 (.slice An s.mem.length cn) (drM xb s.mem) from own_base hom HXs.out.size)
    have HOB := Lib.hid (show OwnW X1.heap.size X2 vb2 (drB xb s.mem) from own_base hob (Nat.le_trans HXs.out.size hn1))
    have HB2 := Lib.hid (show Below X1.heap.size X1 X2 from chain HXs.out hb)
    obtain ⟨Bn, bn, rfl⟩ := own_slice (show X2.ownsRow _ _ 2 vb2 (drB xb s.mem).length _ from hob)
    refine hK.out _ _ trivial (fun hHeld => ?_)
    clear hK K
    (try simp only [Act.put, pt8])
    clear hb hom hob hyb hn1 c0 t3
    have HQ2 := Lib.hid (HQ1.out.below HB2.out HQ1.out.lt)
    have HBV2 := Lib.hid (HBV.out.below HB2.out HBV.out.lt)
    have HNE := Lib.hid (HQ2.out.unlike HBV2.out (by decide))
    have v3 := HBV2.out.frozen (k * 4 + 3)
    have e5 := kc HB2.out HT3.out
    refine wpAnyH_take (i := 8) (v := ?_) rfl (by kernel_rfl) (by kernel_rfl) (by kernel_rfl) (fun _ _ _ h => h) (Or.inl ⟨by rfl, ?_⟩) (by assumption) ?_
    rotate_left
    · intro w hSw; (try dsimp only at hSw); go_simp; (try with_reducible rfl)
    (try simp only [Act.put, pt8])
    refine wpAnyH_take (i := 9) (v := ?_) rfl (by kernel_rfl) (by kernel_rfl) (by kernel_rfl) (fun _ _ _ h => h) (Or.inl ⟨by rfl, ?_⟩) (by assumption) ?_
    rotate_left
    · intro w hSw; (try dsimp only at hSw); go_simp; (try with_reducible rfl)
    (try simp only [Act.put, pt8])
    refine wpAnyH_take (i := 10) (v := ?_) rfl (by kernel_rfl) (by kernel_rfl) (by kernel_rfl) (fun _ _ _ h => h) (Or.inl ⟨by rfl, ?_⟩) (by assumption) ?_
    rotate_left
    · intro w hSw; (try dsimp only at hSw); go_simp; (try with_reducible rfl)
    (try simp only [Act.put, pt8])
    refine wpAnyH_take (i := 11) (v := ?_) rfl (by kernel_rfl) (by kernel_rfl) (by kernel_rfl) (fun _ _ _ h => h) (Or.inl ⟨by rfl, ?_⟩) (by assumption) ?_
    rotate_left
    · intro w hSw; (try dsimp only at hSw); go_simp; (try with_reducible rfl)
    (try simp only [Act.put, pt8])
    refine wpAnyH_take (i := 12) (v := ?_) rfl (by kernel_rfl) (by kernel_rfl) (by kernel_rfl) (fun _ _ _ h => h) (Or.inl ⟨by rfl, ?_⟩) (by assumption) ?_
    rotate_left
    · intro w hSw; (try dsimp only at hSw); go_simp; (try with_reducible rfl)
    (try simp only [Act.put, pt8])
    refine wpAnyH_take (i := 13) (v := ?_) rfl (by kernel_rfl) (by kernel_rfl) (by kernel_rfl) (fun _ _ _ h => h) (Or.inl ⟨by rfl, ?_⟩) (by assumption) ?_
    rotate_left
    · intro w hSw; (try dsimp only at hSw); go_simp; (try with_reducible rfl)
    (try simp only [Act.put, pt8])
    refine wpAnyH_ready (rs := [14]) (by kernel_rfl) (by simp) ?_
    refine AllReadyH.cons rfl (fun K hK => ?_) AllReadyH.nil
    go_simp
    refine hK.out _ _ trivial (fun hHeld => ?_)
    clear hK K
    (try simp only [Act.put, pt8])
    obtain ⟨X4, hX4⟩ : ∃ W, W = X2.setCell ⟨gt, k * 4 + 3, none⟩ (.slice Bn (drB xb s.mem).length bn) := ⟨_, rfl⟩
    have HQ4 := Lib.hid (show BoxC X4 go 62 #[.slice Am s.mem.length cm, .slice (some ⟨gt, 0, none⟩) s.ths.length cv] from by rw [hX4]; exact HQ2.out.other HNE.out _ _)
    have HO4 := Lib.hid (show OwnSt W3.heap.size X4 (.slice Am s.mem.length cm) (.slice (some ⟨gt, 0, none⟩) s.ths.length cv) ⟨s.mem, s.ths.set k ⟨xa, xr, xe, drB xb s.mem⟩⟩ (ps.set k ⟨⟨xa, xr, xe, drB xb s.mem⟩, vr, .slice Bn (drB xb s.mem).length bn⟩) from by rw [hX4]; exact (HOS.out.below HB2.out).setVB' HPK.out (own_base HOB.out HL3.out.size))
    have HM4 := Lib.hid (show OwnI X1.heap.size X4 (.slice An s.mem.length cn) (drM xb s.mem) from by rw [hX4]; exact own_box HOM.out HBV2.out (by decide) _ _)
    have HB4 := Lib.hid (show Below w.heap.size w X4 from by rw [hX4]; exact (chain HBF.out HB2.out).setCell (p := ⟨gt, k * 4 + 3, none⟩) (Nat.le_trans HB3.out.size HGT.out) _)
    have HRR2 := Lib.hid (HRR.out.below HB2.out HRR.out.lt)
    have HRR4 := Lib.hid (show BoxC X4 gr 62 #[.slice none 0 0, .slice none 0 0] from by rw [hX4]; exact HRR2.out.other (HRR2.out.unlike HBV2.out (by decide)) _ _)
    have HAP := Lib.hid (show ∀ p ∈ (ps.set k ⟨⟨xa, xr, xe, drB xb s.mem⟩, vr, .slice Bn (drB xb s.mem).length bn⟩), Ap (.slice An s.mem.length cn) p.vr from fun p hp => by
      rcases List.mem_or_eq_of_mem_set hp with hp | rfl
      · exact ap_symm (ap_new (HOS.out.each p hp).1 HOM.out (Nat.le_refl _))
      · exact ap_symm (ap_new HOE.out.1 HOM.out (Nat.le_refl _)))
    rw [← hX4]
    clear hX4 v3 e5
    have g4 := HQ4.out.frozen 0
    have o4 := HQ4.out.cell 0 _ rfl
    refine wpAnyH_take (i := 15) (v := ?_) rfl (by kernel_rfl) (by kernel_rfl) (by kernel_rfl) (fun _ _ _ h => h) (Or.inl ⟨by rfl, ?_⟩) (by assumption) ?_
    rotate_left
    · intro w hSw; (try dsimp only at hSw); go_simp; (try with_reducible rfl)
    (try simp only [Act.put, pt8])
    refine wpAnyH_ready (rs := [16]) (by kernel_rfl) (by simp) ?_
    refine AllReadyH.cons rfl (fun K hK => ?_) AllReadyH.nil
    go_simp
    refine hK.out _ _ trivial (fun hHeld => ?_)
    clear hK K
    (try simp only [Act.put, pt8])
    obtain ⟨X5, hX5⟩ : ∃ W, W = X4.setCell ⟨go, 0, none⟩ (.slice An s.mem.length cn) := ⟨_, rfl⟩
    have HQ5 := Lib.hid (show BoxC X5 go 62 #[.slice An s.mem.length cn, .slice (some ⟨gt, 0, none⟩) s.ths.length cv] from by rw [hX5]; exact HQ4.out.set 0 _)
    have HGG := Lib.hid (show gr ≠ go from by have := HRW.out; have := HGO3.out; omega)
    have HRR5 := Lib.hid (show BoxC X5 gr 62 #[.slice none 0 0, .slice none 0 0] from by rw [hX5]; exact HRR4.out.other HGG.out _ _)
    have HO5 := Lib.hid (show OwnSt W3.heap.size X5 (.slice An s.mem.length cn) (.slice (some ⟨gt, 0, none⟩) s.ths.length cv) (drn s k ⟨xa, xr, xe, xb⟩) (ps.set k ⟨⟨xa, xr, xe, drB xb s.mem⟩, vr, .slice Bn (drB xb s.mem).length bn⟩) from by rw [hX5]; exact (HO4.out.memRow (own_base HM4.out HL3.out.size) HAP.out).box HQ4.out (by decide) (by decide) (by decide) 0 _)
    have HB5 := Lib.hid (show Below w.heap.size w X5 from by rw [hX5]; exact HB4.out.setCell (p := ⟨go, 0, none⟩) (Nat.le_trans HB3.out.size HGO3.out) _)
    rw [← hX5]
    clear hX5 g4 o4
    refine wpAnyH_done (by kernel_rfl) ?_ _
    have y0 := HQ5.out.cell 0 _ rfl
    have y1 := HQ5.out.cell 1 _ rfl
    have r0 := HRR5.out.cell 0 _ rfl
    have r1 := HRR5.out.cell 1 _ rfl
    have f0 := HRR5.out.frozen 0
    have f1 := HRR5.out.frozen 1
    obtain ⟨W9, hW9⟩ : ∃ W, W = (X5.setCell ⟨gr, 0, none⟩ (.slice An s.mem.length cn)).setCell ⟨gr, 1, none⟩ (.slice (some ⟨gt, 0, none⟩) s.ths.length cv) := ⟨_, rfl⟩
    have HR9 := Lib.hid (show BoxC W9 gr 62 #[(.slice An s.mem.length cn), (.slice (some ⟨gt, 0, none⟩) s.ths.length cv)] from by rw [hW9]; exact (HRR5.out.set 0 _).set 1 _)
    have HO9 := Lib.hid (show OwnSt W3.heap.size W9 (.slice An s.mem.length cn) (.slice (some ⟨gt, 0, none⟩) s.ths.length cv) (drn s k ⟨xa, xr, xe, xb⟩) (ps.set k ⟨⟨xa, xr, xe, drB xb s.mem⟩, vr, .slice Bn (drB xb s.mem).length bn⟩) from by
      rw [hW9]
      exact (HO5.out.box HRR5.out (by decide) (by decide) (by decide) 0 _).box (HRR5.out.set 0 _) (by decide) (by decide) (by decide) 1 _)
    have HB9 := Lib.hid (show Below w.heap.size w W9 from by rw [hW9]; exact (HB5.out.setCell (p := ⟨gr, 0, none⟩) HGR.out _).setCell (p := ⟨gr, 1, none⟩) HGR.out _)
    have HW9 := Lib.hid hW9
    clear hW9
    go_wp2_with fail
    rw [← HW9.out]
    clear r0 r1 f0 f1
    have r0 := HR9.out.cell 0 _ rfl
    have r1 := HR9.out.cell 1 _ rfl
    have hz := HCO.out
    refine bodyPost_ret (v := .agg #[(.slice An s.mem.length cn), (.slice (some ⟨gt, 0, none⟩) s.ths.length cv)]) (by simp [results, Try.results65, go_sem, r0, r1, hz]) rfl ⟨_, _, _, rfl, HO9.out.base HB3.out.size, HB9.out⟩
end Go.Proofs.Ytbffjhdocicfoaa
