/-
  THE DOCUMENT's Step of layer 11: a step of a thread.
-/
import Derived.Test.YtlpjgaeelnlipaaGreatK02
import Derived.Test.YtlpjgaeelnlipaaGreatK22
import Derived.Test.YtlpjgaeelnlipaaGreatScSt
import Derived.Test.YtlpjgaeelnlipaaGreatK30
namespace Go.Proofs.YtlpjgaeelnlipaaGreat
open Go.RowKit
set_option linter.unusedVariables false
set_option linter.unusedSimpArgs false
open CodM (St Pg rightP)
open BfM (Wr plc)
open ScM

set_option maxHeartbeats 8000000 in
set_option maxRecDepth 100000 in
theorem rtstepN_any {B : Nat} {v u : Value} {P : Pg} {s : Sta} (t : Int) (w : World) (hv : PgV B w v P) (hu : StaV B w u s) (hBB : B ≤ w.heap.size) (hp : rightP P = true) (ho : OkSt P s) (hw : WideS s) :
    Calls Tryz.prog 30 #[v, u, .agg #[.int .i64 t, .bool false]] w (TpRet P s t false w) := by
  have HOWN := Lib.hid (fun W (hW : Below w.heap.size w W) => rown_any W ((hu.below (hW.mono hBB)).more (Nat.le_trans hBB hW.size)) (Nat.le_refl _) hw)
  have HAT := Lib.hid (fun W (hW : Below w.heap.size w W) => rat_any t W ((hv.below (hW.mono hBB)).more (Nat.le_trans hBB hW.size)) ((hu.below (hW.mono hBB)).more (Nat.le_trans hBB hW.size)) (Nat.le_refl _) ho)
  have HST := Lib.hid (fun W (hW : Below w.heap.size w W) => refstep_any t W ((hv.below (hW.mono hBB)).more (Nat.le_trans hBB hW.size)) ((hu.below (hW.mono hBB)).more (Nat.le_trans hBB hW.size)) (Nat.le_refl _) hp ho hw)
  have HP := Lib.hid hp
  have HO := Lib.hid ho
  obtain ⟨pi, pt, rfl, hpm⟩ := hv
  obtain ⟨um, ut, rfl, hum⟩ := hu
  have hwm := hw.mem
  have HWR := Lib.hid hw.regs
  obtain ⟨⟨P0, d0, rfl, -⟩, ⟨P1, d1, rfl, -⟩⟩ := hpm
  have HUM := Lib.hid hum.1
  obtain ⟨⟨A7, c7, rfl, -⟩, ⟨A1, c1, rfl, m1, m2, -, m3⟩⟩ := hum
  have HM3 := Lib.hid m3
  unfold maxLen at m2
  clear hw m3 hp ho
  have HCO := Lib.hid (show Tryz.prog.cellsOf 39 = 2 from by kernel_rfl)
  obtain ⟨W3, hW3⟩ : ∃ W, W = (((w.alloc (.cells #[.slice P0 P.init.length d0, .slice P1 P.ths.length d1] 25)).alloc (.cells #[.slice A7 s.mem.length c7, .slice A1 s.ths.length c1] 39)).alloc (.cells #[.int .i64 t, .bool false] 53)).alloc (.cells #[.slice none 0 0, .slice none 0 0] 39) := ⟨_, rfl⟩
  obtain ⟨gp, hgp⟩ : ∃ g, g = w.heap.size := ⟨_, rfl⟩
  obtain ⟨gs, hgs⟩ : ∃ g, g = w.heap.size + 1 := ⟨_, rfl⟩
  obtain ⟨gk, hgk⟩ : ∃ g, g = w.heap.size + 1 + 1 := ⟨_, rfl⟩
  obtain ⟨gr, hgr⟩ : ∃ g, g = w.heap.size + 1 + 1 + 1 := ⟨_, rfl⟩
  have HX := Lib.hid (show BoxC W3 gp 25 #[.slice P0 P.init.length d0, .slice P1 P.ths.length d1] from by rw [hW3, hgp]; exact (((BoxC.new w 25 #[.slice P0 P.init.length d0, .slice P1 P.ths.length d1]).alloc (.cells #[.slice A7 s.mem.length c7, .slice A1 s.ths.length c1] 39)).alloc (.cells #[.int .i64 t, .bool false] 53)).alloc (.cells #[.slice none 0 0, .slice none 0 0] 39))
  have HY := Lib.hid (show BoxC W3 gs 39 #[.slice A7 s.mem.length c7, .slice A1 s.ths.length c1] from by rw [hW3, hgs]; have := ((BoxC.new (w.alloc (.cells #[.slice P0 P.init.length d0, .slice P1 P.ths.length d1] 25)) 39 #[.slice A7 s.mem.length c7, .slice A1 s.ths.length c1]).alloc (.cells #[.int .i64 t, .bool false] 53)).alloc (.cells #[.slice none 0 0, .slice none 0 0] 39); rw [World.size_alloc] at this; exact this)
  have HK := Lib.hid (show BoxC W3 gk 53 #[.int .i64 t, .bool false] from by rw [hW3, hgk]; have := (BoxC.new ((w.alloc (.cells #[.slice P0 P.init.length d0, .slice P1 P.ths.length d1] 25)).alloc (.cells #[.slice A7 s.mem.length c7, .slice A1 s.ths.length c1] 39)) 53 #[.int .i64 t, .bool false]).alloc (.cells #[.slice none 0 0, .slice none 0 0] 39); rw [World.size_alloc, World.size_alloc] at this; exact this)
  have HR := Lib.hid (show BoxC W3 gr 39 #[.slice none 0 0, .slice none 0 0] from by rw [hW3, hgr]; have := BoxC.new (((w.alloc (.cells #[.slice P0 P.init.length d0, .slice P1 P.ths.length d1] 25)).alloc (.cells #[.slice A7 s.mem.length c7, .slice A1 s.ths.length c1] 39)).alloc (.cells #[.int .i64 t, .bool false] 53)) 39 #[.slice none 0 0, .slice none 0 0]; rw [World.size_alloc, World.size_alloc, World.size_alloc] at this; exact this)
  have HB3 := Lib.hid (show Below w.heap.size w W3 from by rw [hW3]; exact below_al (below_al (below_al (below_al (Below.refl _ _) _) _) _) _)
  have HGR := Lib.hid (show w.heap.size ≤ gr from by omega)
  have y0 := HY.out.cell 0 _ rfl
  have y1 := HY.out.cell 1 _ rfl
  go_enter Tryz.func30, Tryz.ntmps30
  go_upto_region 1 with fail
  rw [← hW3]
  (try rw [← hgr])
  (try rw [← hgk])
  (try rw [← hgs])
  (try rw [← hgp])
  clear hW3 hgr hgs hgp hgk
  go_wp2_with fail
  refine (HOWN.out _ HB3.out).mono ?_
  rintro e w1 ⟨vm, vt, ps, rfl, hos, hb1⟩
  have HOS := Lib.hid hos
  have HB1 := Lib.hid hb1
  obtain ⟨Am, cm, rfl⟩ := own_slice hos.mem
  obtain ⟨Av, cv, rfl⟩ := own_slice hos.ths
  clear hos hb1 HOWN y0 y1
  go_upto_region 2 with fail
  obtain ⟨X1, hX1⟩ : ∃ W, W = w1.alloc (.cells #[.slice Am s.mem.length cm, .slice Av s.ths.length cv] 39) := ⟨_, rfl⟩
  obtain ⟨go, hgo⟩ : ∃ g, g = w1.heap.size := ⟨_, rfl⟩
  have HQ1 := Lib.hid (show BoxC X1 go 39 #[.slice Am s.mem.length cm, .slice Av s.ths.length cv] from by rw [hX1, hgo]; exact BoxC.new w1 _ _)
  have HL1 := Lib.hid (show Below w1.heap.size w1 X1 from by rw [hX1]; exact below_al (Below.refl _ _) _)
  have HL3 := Lib.hid (chain HB1.out HL1.out)
  have HGO := Lib.hid (show gs < go from by rw [hgo]; exact Nat.lt_of_lt_of_le HY.out.lt HB1.out.size)
  have HGO3 := Lib.hid (show W3.heap.size ≤ go from by rw [hgo]; exact HB1.out.size)
  replace HOS := Lib.hid (HOS.out.below HL1.out)
  rw [← hX1]
  (try rw [← hgo])
  clear hX1 hgo HL1 HB1
  have HRR := Lib.hid (HR.out.below HL3.out HR.out.lt)
  have HBF := Lib.hid (chain HB3.out HL3.out)
  have y1 := (HY.out.below HL3.out HY.out.lt).cell 1 _ rfl
  have k0 := (HK.out.below HL3.out HK.out.lt).cell 0 _ rfl
  have k1 := (HK.out.below HL3.out HK.out.lt).cell 1 _ rfl
  by_cases hr : 0 ≤ t ∧ t < (s.ths.length : Int)
  case neg =>
    have HFE := Lib.hid (show tst P s t false = none from by unfold tst; rw [thO_none hr]; cases atS P s t <;> rfl)
    by_cases h0 : t < 0
    · clear hr
      go_upto_region 4 with fail
      clear y1 k0 k1
      have y0 := HQ1.out.cell 0 _ rfl
      have y1 := HQ1.out.cell 1 _ rfl
      have r0 := HRR.out.cell 0 _ rfl
      have r1 := HRR.out.cell 1 _ rfl
      have f0 := HRR.out.frozen 0
      have f1 := HRR.out.frozen 1
      obtain ⟨W9, hW9⟩ : ∃ W, W = (X1.setCell ⟨gr, 0, none⟩ (.slice Am s.mem.length cm)).setCell ⟨gr, 1, none⟩ (.slice Av s.ths.length cv) := ⟨_, rfl⟩
      have HR9 := Lib.hid (show BoxC W9 gr 39 #[(.slice Am s.mem.length cm), (.slice Av s.ths.length cv)] from by rw [hW9]; exact (HRR.out.set 0 _).set 1 _)
      have HO9 := Lib.hid (show OwnSt W3.heap.size W9 (.slice Am s.mem.length cm) (.slice Av s.ths.length cv) (s) ps from by
        rw [hW9]
        exact (HOS.out.box HRR.out (by decide) (by decide) (by decide) 0 _).box (HRR.out.set 0 _) (by decide) (by decide) (by decide) 1 _)
      have HB9 := Lib.hid (show Below w.heap.size w W9 from by rw [hW9]; exact (HBF.out.setCell (p := ⟨gr, 0, none⟩) HGR.out _).setCell (p := ⟨gr, 1, none⟩) HGR.out _)
      have HW9 := Lib.hid hW9
      clear hW9
      go_wp2_with fail
      rw [← HW9.out]
      clear r0 r1 f0 f1
      have r0 := HR9.out.cell 0 _ rfl
      have r1 := HR9.out.cell 1 _ rfl
      have hz := HCO.out
      refine bodyPost_ret (v := .tuple #[.agg #[(.slice Am s.mem.length cm), (.slice Av s.ths.length cv)], .bool false]) (by simp [results, Tryz.results30, go_sem, r0, r1, hz]) rfl ⟨_, _, _, by rw [HFE.out]; rfl, (by rw [HFE.out]; exact HO9.out.base HB3.out.size), HB9.out⟩

    · have h1 : (s.ths.length : Int) ≤ t := by omega
      clear hr
      go_upto_region 4 with fail
      clear y1 k0 k1
      have y0 := HQ1.out.cell 0 _ rfl
      have y1 := HQ1.out.cell 1 _ rfl
      have r0 := HRR.out.cell 0 _ rfl
      have r1 := HRR.out.cell 1 _ rfl
      have f0 := HRR.out.frozen 0
      have f1 := HRR.out.frozen 1
      obtain ⟨W9, hW9⟩ : ∃ W, W = (X1.setCell ⟨gr, 0, none⟩ (.slice Am s.mem.length cm)).setCell ⟨gr, 1, none⟩ (.slice Av s.ths.length cv) := ⟨_, rfl⟩
      have HR9 := Lib.hid (show BoxC W9 gr 39 #[(.slice Am s.mem.length cm), (.slice Av s.ths.length cv)] from by rw [hW9]; exact (HRR.out.set 0 _).set 1 _)
      have HO9 := Lib.hid (show OwnSt W3.heap.size W9 (.slice Am s.mem.length cm) (.slice Av s.ths.length cv) (s) ps from by
        rw [hW9]
        exact (HOS.out.box HRR.out (by decide) (by decide) (by decide) 0 _).box (HRR.out.set 0 _) (by decide) (by decide) (by decide) 1 _)
      have HB9 := Lib.hid (show Below w.heap.size w W9 from by rw [hW9]; exact (HBF.out.setCell (p := ⟨gr, 0, none⟩) HGR.out _).setCell (p := ⟨gr, 1, none⟩) HGR.out _)
      have HW9 := Lib.hid hW9
      clear hW9
      go_wp2_with fail
      rw [← HW9.out]
      clear r0 r1 f0 f1
      have r0 := HR9.out.cell 0 _ rfl
      have r1 := HR9.out.cell 1 _ rfl
      have hz := HCO.out
      refine bodyPost_ret (v := .tuple #[.agg #[(.slice Am s.mem.length cm), (.slice Av s.ths.length cv)], .bool false]) (by simp [results, Tryz.results30, go_sem, r0, r1, hz]) rfl ⟨_, _, _, by rw [HFE.out]; rfl, (by rw [HFE.out]; exact HO9.out.base HB3.out.size), HB9.out⟩

  obtain ⟨hr1, hr2⟩ := hr
  obtain ⟨k, rfl⟩ : ∃ k : Nat, t = k := ⟨t.toNat, by omega⟩
  have hks : k < s.ths.length := by omega
  obtain ⟨b1, f1, rfl, hb1, hc1⟩ := HM3.out (by omega)
  obtain ⟨vr, vb, -, b2, -, b3, hRg, hW⟩ := hc1 k hks
  have HPK := Lib.hid (HOS.out.pk hks)
  have y0 := (HY.out.below HL3.out HY.out.lt).cell 0 _ rfl
  have x0 := (HX.out.below HL3.out HX.out.lt).cell 0 _ rfl
  have x1 := (HX.out.below HL3.out HX.out.lt).cell 1 _ rfl
  go_upto_region 12 with fail
  go_wp2_with fail
  refine (HAT.out _ HBF.out).mono ?_
  rintro e w2 ⟨rfl, hb2⟩
  have HB2 := Lib.hid hb2
  clear hb2 y0 y1 x0 x1 k0 k1 HAT
  cases hat : atS P s (k : Int) with
  | none =>
    have HFE := Lib.hid (show tst P s (k : Int) false = none from by unfold tst; rw [hat]; rfl)
    have HRE := Lib.hid (show atV P s (k : Int) = .tuple #[stV ⟨0, 0, 0, 0, 0⟩, .bool false] from by unfold atV; rw [hat])
    clear hat
    rw [HRE.out]
    unfold stV
    go_upto_region 13 with fail
    obtain ⟨X2, hX2⟩ : ∃ W, W = w2.alloc (.cells #[.int .i64 0, .int .i64 0, .int .i64 0, .int .i64 0, .int .i64 0] 75) := ⟨_, rfl⟩
    have HL2 := Lib.hid (show Below X1.heap.size X1 X2 from by rw [hX2]; exact below_al HB2.out _)
    rw [← hX2]
    clear hX2
    have y1 := ((HY.out.below HL3.out HY.out.lt).below HL2.out (HY.out.below HL3.out HY.out.lt).lt).cell 1 _ rfl
    have HC3 := Lib.hid b3
    replace b3 := ((chain HBF.out HL2.out |>.mono hBB).cell (p := ⟨b1, f1 + k * 4 + 3, none⟩) hb1).trans b3
    obtain ⟨Ab, cb, hW1, -⟩ := hW
    rw [hW1] at b3
    have HRR := Lib.hid (HRR.out.below HL2.out HRR.out.lt)
    have HQ2 := Lib.hid (HQ1.out.below HL2.out HQ1.out.lt)
    have z0 := HQ2.out.cell 0 _ rfl
    have z1 := HQ2.out.cell 1 _ rfl
    by_cases hbl : 0 < s.ths[k].buf.length
    · go_upto_region 15 with fail
      clear y1 b3
      have r0 := HRR.out.cell 0 _ rfl
      have r1 := HRR.out.cell 1 _ rfl
      have f0 := HRR.out.frozen 0
      have f1 := HRR.out.frozen 1
      obtain ⟨W9, hW9⟩ : ∃ W, W = (X2.setCell ⟨gr, 0, none⟩ (.slice Am s.mem.length cm)).setCell ⟨gr, 1, none⟩ (.slice Av s.ths.length cv) := ⟨_, rfl⟩
      have HR9 := Lib.hid (show BoxC W9 gr 39 #[(.slice Am s.mem.length cm), (.slice Av s.ths.length cv)] from by rw [hW9]; exact (HRR.out.set 0 _).set 1 _)
      have HO9 := Lib.hid (show OwnSt W3.heap.size W9 (.slice Am s.mem.length cm) (.slice Av s.ths.length cv) (s) ps from by
        rw [hW9]
        exact ((HOS.out.below HL2.out).box HRR.out (by decide) (by decide) (by decide) 0 _).box (HRR.out.set 0 _) (by decide) (by decide) (by decide) 1 _)
      have HB9 := Lib.hid (show Below w.heap.size w W9 from by rw [hW9]; exact ((chain HBF.out HL2.out).setCell (p := ⟨gr, 0, none⟩) HGR.out _).setCell (p := ⟨gr, 1, none⟩) HGR.out _)
      have HW9 := Lib.hid hW9
      clear hW9
      go_wp2_with fail
      rw [← HW9.out]
      clear r0 r1 f0 f1
      have r0 := HR9.out.cell 0 _ rfl
      have r1 := HR9.out.cell 1 _ rfl
      have hz := HCO.out
      refine bodyPost_ret (v := .tuple #[.agg #[(.slice Am s.mem.length cm), (.slice Av s.ths.length cv)], .bool false]) (by simp [results, Tryz.results30, go_sem, r0, r1, hz]) rfl ⟨_, _, _, by rw [HFE.out]; rfl, (by rw [HFE.out]; exact HO9.out.base HB3.out.size), HB9.out⟩

    · go_upto_region 15 with fail
      clear y1 b3
      have r0 := HRR.out.cell 0 _ rfl
      have r1 := HRR.out.cell 1 _ rfl
      have f0 := HRR.out.frozen 0
      have f1 := HRR.out.frozen 1
      obtain ⟨W9, hW9⟩ : ∃ W, W = (X2.setCell ⟨gr, 0, none⟩ (.slice Am s.mem.length cm)).setCell ⟨gr, 1, none⟩ (.slice Av s.ths.length cv) := ⟨_, rfl⟩
      have HR9 := Lib.hid (show BoxC W9 gr 39 #[(.slice Am s.mem.length cm), (.slice Av s.ths.length cv)] from by rw [hW9]; exact (HRR.out.set 0 _).set 1 _)
      have HO9 := Lib.hid (show OwnSt W3.heap.size W9 (.slice Am s.mem.length cm) (.slice Av s.ths.length cv) (s) ps from by
        rw [hW9]
        exact ((HOS.out.below HL2.out).box HRR.out (by decide) (by decide) (by decide) 0 _).box (HRR.out.set 0 _) (by decide) (by decide) (by decide) 1 _)
      have HB9 := Lib.hid (show Below w.heap.size w W9 from by rw [hW9]; exact ((chain HBF.out HL2.out).setCell (p := ⟨gr, 0, none⟩) HGR.out _).setCell (p := ⟨gr, 1, none⟩) HGR.out _)
      have HW9 := Lib.hid hW9
      clear hW9
      go_wp2_with fail
      rw [← HW9.out]
      clear r0 r1 f0 f1
      have r0 := HR9.out.cell 0 _ rfl
      have r1 := HR9.out.cell 1 _ rfl
      have hz := HCO.out
      refine bodyPost_ret (v := .tuple #[.agg #[(.slice Am s.mem.length cm), (.slice Av s.ths.length cv)], .bool false]) (by simp [results, Tryz.results30, go_sem, r0, r1, hz]) rfl ⟨_, _, _, by rw [HFE.out]; rfl, (by rw [HFE.out]; exact HO9.out.base HB3.out.size), HB9.out⟩

  | some x =>
    obtain ⟨k', hkk, h1, h2, h3, hx⟩ := atS_some hat
    have hkk' : k = k' := by omega
    subst hkk'
    have HAE := Lib.hid hat
    have HRE := Lib.hid (show atV P s (k : Int) = .tuple #[stV x, .bool true] from by unfold atV; rw [hat])
    have HSE := Lib.hid (show stp P s (k : Int) = ⟨stM x s.mem s.ths[k].regs, s.ths.set k (stT x s.mem s.ths[k])⟩ from by rw [stp_at h1 h2 h3, ← hx])
    have HFE := Lib.hid (show tst P s (k : Int) false = if stuck x s.ths[k] then none else some (tsS x s k s.ths[k]) from by unfold tst; rw [hat, thO_at hks]; rfl)
    obtain ⟨ln, HPX⟩ : ∃ ln, Hid (StP s.mem.length ln s.ths[k].at'.toNat x) := ⟨_, Lib.hid (by rw [HO.out.mem, hx]; exact stp_of HP.out h2 h3)⟩
    have HXR := Lib.hid (show s.ths[k].regs.length = 4 from (HO.out.th k h1 h2).regs)
    have HVW := Lib.hid (fun W (hW' : Below w.heap.size w W) => rview_any x.loc W ((hW.below (hW'.mono hBB)).more (Nat.le_trans hBB hW'.size)) ((HUM.out.below (hW'.mono hBB)).more (Nat.le_trans hBB hW'.size)) (Nat.le_refl _) (by have := (HWR.out _ (List.getElem_mem hks)).2; omega) (by omega))
    have HPU := Lib.hid (fun W (y : Wr) (hW' : Below w.heap.size w W) => rpush_any y W ((hW.below (hW'.mono hBB)).more (Nat.le_trans hBB hW'.size)) (Nat.le_refl _) (by have := (HWR.out _ (List.getElem_mem hks)).2; omega))
    generalize s.ths[k] = h at *
    clear hat h1 h2 h3 hx hkk hc1
    obtain ⟨xa, xr, xe, xb⟩ := h
    obtain ⟨Ab, cb, rfl, -⟩ := hW
    obtain ⟨op, rg, lc, nn, tn⟩ := x
    dsimp only at *
    rw [HRE.out]
    unfold stV
    dsimp only
    go_upto_region 13 with fail
    obtain ⟨X2, hX2⟩ : ∃ W, W = w2.alloc (.cells #[.int .i64 op, .int .i64 rg, .int .i64 lc, .int .i64 nn, .int .i64 tn] 75) := ⟨_, rfl⟩
    obtain ⟨g9, hg9⟩ : ∃ g, g = w2.heap.size := ⟨_, rfl⟩
    have HQ9 := Lib.hid (show BoxC X2 g9 75 #[.int .i64 op, .int .i64 rg, .int .i64 lc, .int .i64 nn, .int .i64 tn] from by rw [hX2, hg9]; exact BoxC.new w2 _ _)
    have HL2 := Lib.hid (show Below X1.heap.size X1 X2 from by rw [hX2]; exact below_al HB2.out _)
    have HG9 := Lib.hid (show X1.heap.size ≤ g9 from by rw [hg9]; exact HB2.out.size)
    rw [← hX2]
    (try rw [← hg9])
    clear hX2 hg9 HB2
    have y1 := ((HY.out.below HL3.out HY.out.lt).below HL2.out (HY.out.below HL3.out HY.out.lt).lt).cell 1 _ rfl
    have HC3 := Lib.hid b3
    replace b3 := ((chain HBF.out HL2.out |>.mono hBB).cell (p := ⟨b1, f1 + k * 4 + 3, none⟩) hb1).trans b3
    replace HRR := Lib.hid (HRR.out.below HL2.out HRR.out.lt)
    replace HQ1 := Lib.hid (HQ1.out.below HL2.out HQ1.out.lt)
    have z0 := HQ1.out.cell 0 _ rfl
    have z1 := HQ1.out.cell 1 _ rfl
    have p0 := HQ9.out.cell 0 _ rfl
    by_cases hbl : 0 < xb.length
    · have hne : xb.isEmpty = false := by cases xb with
        | nil => exact absurd hbl (by simp)
        | cons _ _ => rfl
      by_cases h6 : op = 6
      · have HF2 := Lib.hid (show tst P s (k : Int) false = none from by rw [HFE.out, if_pos (by simp [stuck, hne, h6])])
        clear HFE hne
        subst h6
        go_upto_region 15 with fail
        clear y1 b3 p0
        have r0 := HRR.out.cell 0 _ rfl
        have r1 := HRR.out.cell 1 _ rfl
        have f0 := HRR.out.frozen 0
        have f1 := HRR.out.frozen 1
        obtain ⟨W9, hW9⟩ : ∃ W, W = (X2.setCell ⟨gr, 0, none⟩ (.slice Am s.mem.length cm)).setCell ⟨gr, 1, none⟩ (.slice Av s.ths.length cv) := ⟨_, rfl⟩
        have HR9 := Lib.hid (show BoxC W9 gr 39 #[(.slice Am s.mem.length cm), (.slice Av s.ths.length cv)] from by rw [hW9]; exact (HRR.out.set 0 _).set 1 _)
        have HO9 := Lib.hid (show OwnSt W3.heap.size W9 (.slice Am s.mem.length cm) (.slice Av s.ths.length cv) (s) ps from by
          rw [hW9]
          exact ((HOS.out.below HL2.out).box HRR.out (by decide) (by decide) (by decide) 0 _).box (HRR.out.set 0 _) (by decide) (by decide) (by decide) 1 _)
        have HB9 := Lib.hid (show Below w.heap.size w W9 from by rw [hW9]; exact ((chain HBF.out HL2.out).setCell (p := ⟨gr, 0, none⟩) HGR.out _).setCell (p := ⟨gr, 1, none⟩) HGR.out _)
        have HW9 := Lib.hid hW9
        clear hW9
        go_wp2_with fail
        rw [← HW9.out]
        clear r0 r1 f0 f1
        have r0 := HR9.out.cell 0 _ rfl
        have r1 := HR9.out.cell 1 _ rfl
        have hz := HCO.out
        refine bodyPost_ret (v := .tuple #[.agg #[(.slice Am s.mem.length cm), (.slice Av s.ths.length cv)], .bool false]) (by simp [results, Tryz.results30, go_sem, r0, r1, hz]) rfl ⟨_, _, _, by rw [HF2.out]; rfl, (by rw [HF2.out]; exact HO9.out.base HB3.out.size), HB9.out⟩

      by_cases h5 : op = 5
      · have HF2 := Lib.hid (show tst P s (k : Int) false = none from by rw [HFE.out, if_pos (by simp [stuck, hne, h5])])
        clear HFE hne
        subst h5
        go_upto_region 15 with fail
        clear y1 b3 p0
        have r0 := HRR.out.cell 0 _ rfl
        have r1 := HRR.out.cell 1 _ rfl
        have f0 := HRR.out.frozen 0
        have f1 := HRR.out.frozen 1
        obtain ⟨W9, hW9⟩ : ∃ W, W = (X2.setCell ⟨gr, 0, none⟩ (.slice Am s.mem.length cm)).setCell ⟨gr, 1, none⟩ (.slice Av s.ths.length cv) := ⟨_, rfl⟩
        have HR9 := Lib.hid (show BoxC W9 gr 39 #[(.slice Am s.mem.length cm), (.slice Av s.ths.length cv)] from by rw [hW9]; exact (HRR.out.set 0 _).set 1 _)
        have HO9 := Lib.hid (show OwnSt W3.heap.size W9 (.slice Am s.mem.length cm) (.slice Av s.ths.length cv) (s) ps from by
          rw [hW9]
          exact ((HOS.out.below HL2.out).box HRR.out (by decide) (by decide) (by decide) 0 _).box (HRR.out.set 0 _) (by decide) (by decide) (by decide) 1 _)
        have HB9 := Lib.hid (show Below w.heap.size w W9 from by rw [hW9]; exact ((chain HBF.out HL2.out).setCell (p := ⟨gr, 0, none⟩) HGR.out _).setCell (p := ⟨gr, 1, none⟩) HGR.out _)
        have HW9 := Lib.hid hW9
        clear hW9
        go_wp2_with fail
        rw [← HW9.out]
        clear r0 r1 f0 f1
        have r0 := HR9.out.cell 0 _ rfl
        have r1 := HR9.out.cell 1 _ rfl
        have hz := HCO.out
        refine bodyPost_ret (v := .tuple #[.agg #[(.slice Am s.mem.length cm), (.slice Av s.ths.length cv)], .bool false]) (by simp [results, Tryz.results30, go_sem, r0, r1, hz]) rfl ⟨_, _, _, by rw [HF2.out]; rfl, (by rw [HF2.out]; exact HO9.out.base HB3.out.size), HB9.out⟩

      have HF2 := Lib.hid (show tst P s (k : Int) false = some (tsS ⟨op, rg, lc, nn, tn⟩ s k ⟨xa, xr, xe, xb⟩) from by rw [HFE.out, if_neg (by simp [stuck, h5, h6])])
      have e6 : ¬ ((op == 6) = true) := by simpa using h6
      have e5 : ¬ ((op == 5) = true) := by simpa using h5
      go_upto_region 16 with fail
      clear y1 b3 p0 z0 z1 HFE hne h5 h6 e6 e5 hbl
      have HBX := Lib.hid (chain HBF.out HL2.out)
      have x0 := ((HX.out.below HL3.out HX.out.lt).below HL2.out (HX.out.below HL3.out HX.out.lt).lt).cell 0 _ rfl
      have x1 := ((HX.out.below HL3.out HX.out.lt).below HL2.out (HX.out.below HL3.out HX.out.lt).lt).cell 1 _ rfl
      have y0 := ((HY.out.below HL3.out HY.out.lt).below HL2.out (HY.out.below HL3.out HY.out.lt).lt).cell 0 _ rfl
      have y1 := ((HY.out.below HL3.out HY.out.lt).below HL2.out (HY.out.below HL3.out HY.out.lt).lt).cell 1 _ rfl
      go_wp2_with fail
      refine (HST.out _ HBX.out).mono ?_
      rintro e w3 ⟨vm2, vt2, ps2, rfl, hos2, hb3⟩
      rw [HAE.out]
      rw [HSE.out] at hos2
      obtain ⟨Mn, mn, rfl⟩ := own_slice (n := s.mem.length) (show w3.ownsRow _ _ 1 vm2 s.mem.length _ from by have e := hos2.mem; unfold OwnI at e; rwa [stM_len] at e)
      obtain ⟨Vn, vn, rfl⟩ := own_slice (n := s.ths.length) (by have e := hos2.ths; rwa [List.length_set] at e)
      have HO2 := Lib.hid hos2
      have HB4 := Lib.hid hb3
      clear hos2 hb3 x0 x1 y0 y1 HST
      go_upto_region 17 with fail
      obtain ⟨X4, hX4⟩ : ∃ W, W = w3.alloc (.cells #[.slice Mn s.mem.length mn, .slice Vn s.ths.length vn] 39) := ⟨_, rfl⟩
      obtain ⟨gn, hgn⟩ : ∃ g, g = w3.heap.size := ⟨_, rfl⟩
      have HN := Lib.hid (show BoxC X4 gn 39 #[.slice Mn s.mem.length mn, .slice Vn s.ths.length vn] from by rw [hX4, hgn]; exact BoxC.new w3 _ _)
      have HL4 := Lib.hid (show Below X2.heap.size X2 X4 from by rw [hX4]; exact below_al HB4.out _)
      have HO4 := Lib.hid (show OwnSt X2.heap.size X4 (.slice Mn s.mem.length mn) (.slice Vn s.ths.length vn) ⟨stM ⟨op, rg, lc, nn, tn⟩ s.mem xr, s.ths.set k (stT ⟨op, rg, lc, nn, tn⟩ s.mem ⟨xa, xr, xe, xb⟩)⟩ ps2 from by rw [hX4]; exact HO2.out.below (below_al (Below.refl _ _) _))
      have HGN := Lib.hid (show X2.heap.size ≤ gn from by rw [hgn]; exact HB4.out.size)
      rw [← hX4]
      (try rw [← hgn])
      clear hX4 hgn HO2 HB4
      replace HQ9 := Lib.hid (HQ9.out.below HL4.out HQ9.out.lt)
      replace HRR := Lib.hid (HRR.out.below HL4.out HRR.out.lt)
      replace HQ1 := Lib.hid (HQ1.out.below HL4.out HQ1.out.lt)
      replace HBX := Lib.hid (chain HBX.out HL4.out)
      have p0 := HQ9.out.cell 0 _ rfl
      by_cases h2 : op = 2
      · subst h2
        have HPR := Lib.hid (HPX.out.reg (by rfl))
        have HF3 := Lib.hid (show tsS ⟨2, rg, lc, nn, tn⟩ s k ⟨xa, xr, xe, xb⟩ = ⟨s.mem, s.ths.set k ⟨xa + 1, xr.set rg.toNat ((BfM.view xb s.mem lc).getD 0), xe, xb⟩⟩ from by unfold tsS; rw [if_pos rfl])
        obtain ⟨n9, b9, HVV⟩ : ∃ n b, Hid (viewV xb s.mem lc = .tuple #[.int .i64 n, .bool b] ∧ n = (BfM.view xb s.mem lc).getD 0) := by
          unfold viewV
          cases BfM.view xb s.mem lc with
          | none => exact ⟨0, false, Lib.hid ⟨rfl, rfl⟩⟩
          | some n => exact ⟨n, true, Lib.hid ⟨rfl, rfl⟩⟩
        have y0 := (((HY.out.below HL3.out HY.out.lt).below HL2.out (HY.out.below HL3.out HY.out.lt).lt).below HL4.out ((HY.out.below HL3.out HY.out.lt).below HL2.out (HY.out.below HL3.out HY.out.lt).lt).lt).cell 0 _ rfl
        have y1 := (((HY.out.below HL3.out HY.out.lt).below HL2.out (HY.out.below HL3.out HY.out.lt).lt).below HL4.out ((HY.out.below HL3.out HY.out.lt).below HL2.out (HY.out.below HL3.out HY.out.lt).lt).lt).cell 1 _ rfl
        have b3 := ((HBX.out.mono hBB).cell (p := ⟨b1, f1 + k * 4 + 3, none⟩) hb1).trans HC3.out
        have p2 := HQ9.out.cell 2 _ rfl
        go_upto_region 19 with fail
        refine wp_region_held_drew (S := (fun w' => w'.cell? ⟨gs, 0, none⟩ = some (.slice A7 s.mem.length c7) ∧ w'.cell? ⟨gs, 1, none⟩ = some (.slice (some ⟨b1, f1, none⟩) s.ths.length c1) ∧ w'.cell? ⟨b1, f1 + k * 4 + 3, none⟩ = some (.slice Ab xb.length cb) ∧ w'.cell? ⟨g9, 2, none⟩ = some (.int .i64 lc) ∧ Below X4.heap.size X4 w')) (by kernel_rfl) ⟨y0, y1, b3, p2, below_drewN (Below.refl _ _) 1⟩ (fun hHeld => ?_)
        obtain ⟨Xs, hXs⟩ : ∃ W, W = X4.drew := ⟨_, rfl⟩
        rw [← hXs] at hHeld ⊢
        clear hXs
        refine wtk 0 ?_ ?_ ?_
        rotate_left
        · intro w hSw; (try dsimp only at hSw); go_simp; (try with_reducible rfl)
        (try simp only [Act.put, pt8])
        refine wtk 1 ?_ ?_ ?_
        rotate_left
        · intro w hSw; (try dsimp only at hSw); go_simp; (try with_reducible rfl)
        (try simp only [Act.put, pt8])
        refine wtk 2 ?_ ?_ ?_
        rotate_left
        · intro w hSw; (try dsimp only at hSw); go_simp; (try with_reducible rfl)
        (try simp only [Act.put, pt8])
        refine wtk 3 ?_ ?_ ?_
        rotate_left
        · intro w hSw; (try dsimp only at hSw); go_simp; (try with_reducible rfl)
        (try simp only [Act.put, pt8])
        refine wtk 4 ?_ ?_ ?_
        rotate_left
        · intro w hSw; (try dsimp only at hSw); go_simp; (try with_reducible rfl)
        (try simp only [Act.put, pt8])
        refine wtk 5 ?_ ?_ ?_
        rotate_left
        · intro w hSw; (try dsimp only at hSw); go_simp; (try with_reducible rfl)
        (try simp only [Act.put, pt8])
        refine wtk 6 ?_ ?_ ?_
        rotate_left
        · intro w hSw; (try dsimp only at hSw); go_simp; (try with_reducible rfl)
        (try simp only [Act.put, pt8])
        refine wtk 7 ?_ ?_ ?_
        rotate_left
        · intro w hSw; (try dsimp only at hSw); go_simp; (try with_reducible rfl)
        (try simp only [Act.put, pt8])
        refine wtk 8 ?_ ?_ ?_
        rotate_left
        · intro w hSw; (try dsimp only at hSw); go_simp; (try with_reducible rfl)
        (try simp only [Act.put, pt8])
        refine wtk 9 ?_ ?_ ?_
        rotate_left
        · intro w hSw; (try dsimp only at hSw); go_simp; (try with_reducible rfl)
        (try simp only [Act.put, pt8])
        refine wpAnyH_ready (rs := [10]) (by kernel_rfl) (by simp) ?_
        refine AllReadyH.cons rfl (fun K hK => ?_) AllReadyH.nil
        obtain ⟨q0, q1, q2, q3, q4⟩ := hHeld
        go_simp
        refine (HVW.out _ (chain HBX.out q4)).mono ?_
        rintro e X5 ⟨rfl, hb⟩
        rw [HVV.out.1]
        have HB5 := Lib.hid (show Below X4.heap.size X4 X5 from chain q4 hb)
        refine hK.out _ _ ⟨kc hb q0, kc hb q1, kc hb q2, kc hb q3, chain q4 hb⟩ (fun hHeld => ?_)
        clear q0 q1 q2 q3 q4
        clear hK K
        (try simp only [Act.put, pt8])
        clear hb
        refine wtk 11 ?_ ?_ ?_
        rotate_left
        · intro w hSw; (try dsimp only at hSw); go_simp; (try with_reducible rfl)
        (try simp only [Act.put, pt8])
        refine wtk 12 ?_ ?_ ?_
        rotate_left
        · intro w hSw; (try dsimp only at hSw); go_simp; (try with_reducible rfl)
        (try simp only [Act.put, pt8])
        refine wtk 13 ?_ ?_ ?_
        rotate_left
        · intro w hSw; (try dsimp only at hSw); go_simp; (try with_reducible rfl)
        (try simp only [Act.put, pt8])
        refine wpAnyH_ready (rs := [14]) (by kernel_rfl) (by simp) ?_
        refine AllReadyH.cons rfl (fun K hK => ?_) AllReadyH.nil
        go_simp
        refine hK.out _ _ hHeld (fun hHeld => ?_)
        clear hK K
        (try simp only [Act.put, pt8])
        refine wpAnyH_ready (rs := [15]) (by kernel_rfl) (by simp) ?_
        refine AllReadyH.cons rfl (fun K hK => ?_) AllReadyH.nil
        go_simp
        refine hK.out _ _ hHeld (fun hHeld => ?_)
        clear hK K
        (try simp only [Act.put, pt8])
        refine wpAnyH_done (by kernel_rfl) ?_ _
        clear hHeld y0 y1 b3 p0 p2
        obtain ⟨j, rfl⟩ : ∃ j : Nat, rg = j := ⟨rg.toNat, by have := HPR.out.1; dsimp only at this; omega⟩
        have hj4 : j < xr.length := by have h := HPR.out.2; have h' := HXR.out; dsimp only at h h'; omega
        have HT := Lib.hid (show stT ⟨2, (j : Int), lc, nn, tn⟩ s.mem ⟨xa, xr, xe, xb⟩ = ⟨xa + 1, xr.set j (nth s.mem lc), xe, xb⟩ from by simp [stT, stR, stE, jumps])
        have HM := Lib.hid (show ScM.stM ⟨2, (j : Int), lc, nn, tn⟩ s.mem xr = s.mem from by simp [ScM.stM])
        have HO5 := Lib.hid (HO4.out.below HB5.out)
        have HN5 := Lib.hid (HN.out.below HB5.out HN.out.lt)
        have HQ95 := Lib.hid (HQ9.out.below HB5.out HQ9.out.lt)
        have HRR5 := Lib.hid (HRR.out.below HB5.out HRR.out.lt)
        rw [HM.out] at HO5
        obtain ⟨vr2, vb2, hpk⟩ := HO5.out.pk (k := k) (by simpa using hks)
        simp only [List.getElem_set_self] at hpk
        obtain ⟨hkp, hpe⟩ := List.getElem?_eq_some_iff.1 hpk
        obtain ⟨gt, cv', cur, hev, hgt, hbv, t0, t1, t2, t3⟩ := HO5.out.row hkp
        rw [List.length_set] at hev
        injection hev with hev1 hev3 hev2
        clear hev3
        subst hev1 hev2
        rw [hpe] at t1 t3
        have HPK' := Lib.hid hpk
        have HOE := Lib.hid (HO5.out.each _ (List.getElem_mem hkp))
        rw [hpe] at HOE
        have HBV := Lib.hid hbv
        have HGT := Lib.hid hgt
        clear hpk hbv hgt hpe t0 t2
        dsimp only at HOE
        rw [HT.out] at HOE HPK'
        rw [HT.out] at HO5
        obtain ⟨gv, cr, curr, hvr, hgv, hbr, hcr⟩ := own_nu (l := xr.set j (nth s.mem lc)) HOE.out.1 (j := j) (by simpa using hj4)
        subst hvr
        have HBR := Lib.hid hbr
        have HGV := Lib.hid hgv
        have HCR := Lib.hid hcr
        clear hbr hgv hcr t3
        have HN1 := Lib.hid (HBV.out.unlike HBR.out (by decide))
        have HN2 := Lib.hid (HQ95.out.unlike HBR.out (by decide))
        have HN3 := Lib.hid (HN5.out.unlike HBR.out (by decide))
        have o1 := HN5.out.cell 1 _ rfl
        have p1 := HQ95.out.cell 1 _ rfl
        go_upto_region 20 with fail
        refine wp_region_held_drew (S := (fun w' => w'.cell? ⟨gn, 1, none⟩ = some (.slice (some ⟨gt, 0, none⟩) s.ths.length vn) ∧ w'.cell? ⟨gt, k * 4 + 1, none⟩ = some (.slice (some ⟨gv, 0, none⟩) (xr.set j (nth s.mem lc)).length cr) ∧ w'.cell? ⟨g9, 1, none⟩ = some (.int .i64 (j : Int)) ∧ True)) (by kernel_rfl) ⟨o1, t1, p1, trivial⟩ (fun hHeld => ?_)
        obtain ⟨X6, hX6⟩ : ∃ W, W = X5.drew := ⟨_, rfl⟩
        have HB6 := Lib.hid (show Below X5.heap.size X5 X6 from by rw [hX6]; exact below_drewN (Below.refl _ _) 1)
        rw [← hX6] at hHeld ⊢
        clear hX6
        refine wtk 0 ?_ ?_ ?_
        rotate_left
        · intro w hSw; (try dsimp only at hSw); go_simp; (try with_reducible rfl)
        (try simp only [Act.put, pt8])
        refine wtk 1 ?_ ?_ ?_
        rotate_left
        · intro w hSw; (try dsimp only at hSw); go_simp; (try with_reducible rfl)
        (try simp only [Act.put, pt8])
        refine wtk 2 ?_ ?_ ?_
        rotate_left
        · intro w hSw; (try dsimp only at hSw); go_simp; (try with_reducible rfl)
        (try simp only [Act.put, pt8])
        refine wtk 3 ?_ ?_ ?_
        rotate_left
        · intro w hSw; (try dsimp only at hSw); go_simp; (try with_reducible rfl)
        (try simp only [Act.put, pt8])
        refine wtk 4 ?_ ?_ ?_
        rotate_left
        · intro w hSw; (try dsimp only at hSw); go_simp; (try with_reducible rfl)
        (try simp only [Act.put, pt8])
        refine wtk 5 ?_ ?_ ?_
        rotate_left
        · intro w hSw; (try dsimp only at hSw); go_simp; (try with_reducible rfl)
        (try simp only [Act.put, pt8])
        refine wtk 6 ?_ ?_ ?_
        rotate_left
        · intro w hSw; (try dsimp only at hSw); go_simp; (try with_reducible rfl)
        (try simp only [Act.put, pt8])
        refine wtk 7 ?_ ?_ ?_
        rotate_left
        · intro w hSw; (try dsimp only at hSw); go_simp; (try with_reducible rfl)
        (try simp only [Act.put, pt8])
        refine wtk 8 ?_ ?_ ?_
        rotate_left
        · intro w hSw; (try dsimp only at hSw); go_simp; (try with_reducible rfl)
        (try simp only [Act.put, pt8])
        refine wtk 9 ?_ ?_ ?_
        rotate_left
        · intro w hSw; (try dsimp only at hSw); go_simp; (try with_reducible rfl)
        (try simp only [Act.put, pt8])
        refine wpAnyH_ready (rs := [10]) (by kernel_rfl) (by simp) ?_
        refine AllReadyH.cons rfl (fun K hK => ?_) AllReadyH.nil
        obtain ⟨q0, q1, q2, -⟩ := hHeld
        have v6 := (HBR.out.below HB6.out HBR.out.lt).frozen j
        have e6 := kc HB6.out HCR.out
        go_simp
        refine hK.out _ _ ⟨st_ne HN3.out q0, st_ne HN1.out q1, st_ne HN2.out q2, trivial⟩ (fun hHeld => ?_)
        clear q0 q1 q2 v6 e6
        clear hK K
        (try simp only [Act.put, pt8])
        refine wpAnyH_done (by kernel_rfl) ?_ _
        clear hHeld o1 p1 t1
        obtain ⟨X7, hX7⟩ : ∃ W, W = X6.setCell ⟨gv, j, none⟩ (.int .i64 n9) := ⟨_, rfl⟩
        have HO7 := Lib.hid (show OwnSt X2.heap.size X7 (.slice Mn s.mem.length mn) (.slice (some ⟨gt, 0, none⟩) s.ths.length vn) ⟨s.mem, s.ths.set k ⟨xa + 1, xr.set j n9, xe, xb⟩⟩ (ps2.set k ⟨⟨xa + 1, (xr.set j (nth s.mem lc)).set j n9, xe, xb⟩, .slice (some ⟨gv, 0, none⟩) (xr.set j (nth s.mem lc)).length cr, vb2⟩) from by
          rw [hX7]
          have := own_setR (j := j) (z := n9) (HO5.out.below HB6.out) HPK'.out
          exact this.cast (by rw [List.set_set, List.set_set]))
        have HN7 := Lib.hid (show BoxC X7 gn 39 #[.slice Mn s.mem.length mn, .slice (some ⟨gt, 0, none⟩) s.ths.length vn] from by rw [hX7]; exact (HN5.out.below HB6.out HN5.out.lt).other HN3.out _ _)
        have HRR := Lib.hid (show BoxC X7 gr 39 #[.slice none 0 0, .slice none 0 0] from by rw [hX7]; exact (HRR5.out.below HB6.out HRR5.out.lt).other ((HRR5.out.below HB6.out HRR5.out.lt).unlike (HBR.out.below HB6.out HBR.out.lt) (by decide)) _ _)
        have HB7 := Lib.hid (show Below w.heap.size w X7 from by rw [hX7]; exact (chain HBX.out (chain HB5.out HB6.out)).setCell (p := ⟨gv, j, none⟩) (Nat.le_trans HB3.out.size (Nat.le_trans HL3.out.size (Nat.le_trans HL2.out.size HGV.out))) _)
        have HF4 := Lib.hid (show tsS ⟨2, (j : Int), lc, nn, tn⟩ s k ⟨xa, xr, xe, xb⟩ = ⟨s.mem, s.ths.set k ⟨xa + 1, xr.set j n9, xe, xb⟩⟩ from by rw [HF3.out, HVV.out.2]; simp)
        rw [← hX7]
        clear hX7
        have z0 := HN7.out.cell 0 _ rfl
        have z1 := HN7.out.cell 1 _ rfl
        have r0 := HRR.out.cell 0 _ rfl
        have r1 := HRR.out.cell 1 _ rfl
        have f0 := HRR.out.frozen 0
        have f1 := HRR.out.frozen 1
        obtain ⟨W9, hW9⟩ : ∃ W, W = (X7.setCell ⟨gr, 0, none⟩ (.slice Mn s.mem.length mn)).setCell ⟨gr, 1, none⟩ (.slice (some ⟨gt, 0, none⟩) s.ths.length vn) := ⟨_, rfl⟩
        have HR9 := Lib.hid (show BoxC W9 gr 39 #[(.slice Mn s.mem.length mn), (.slice (some ⟨gt, 0, none⟩) s.ths.length vn)] from by rw [hW9]; exact (HRR.out.set 0 _).set 1 _)
        have HO9 := Lib.hid (show OwnSt W3.heap.size W9 (.slice Mn s.mem.length mn) (.slice (some ⟨gt, 0, none⟩) s.ths.length vn) (tsS ⟨2, (j : Int), lc, nn, tn⟩ s k ⟨xa, xr, xe, xb⟩) (ps2.set k ⟨⟨xa + 1, (xr.set j (nth s.mem lc)).set j n9, xe, xb⟩, .slice (some ⟨gv, 0, none⟩) (xr.set j (nth s.mem lc)).length cr, vb2⟩) from by
          rw [hW9]
          exact (((HO7.out.base (Nat.le_trans HL3.out.size HL2.out.size)).cast HF4.out.symm).box HRR.out (by decide) (by decide) (by decide) 0 _).box (HRR.out.set 0 _) (by decide) (by decide) (by decide) 1 _)
        have HB9 := Lib.hid (show Below w.heap.size w W9 from by rw [hW9]; exact (HB7.out.setCell (p := ⟨gr, 0, none⟩) HGR.out _).setCell (p := ⟨gr, 1, none⟩) HGR.out _)
        have HW9 := Lib.hid hW9
        clear hW9
        go_wp2_with fail
        rw [← HW9.out]
        clear r0 r1 f0 f1
        have r0 := HR9.out.cell 0 _ rfl
        have r1 := HR9.out.cell 1 _ rfl
        have hz := HCO.out
        refine bodyPost_ret (v := .tuple #[.agg #[(.slice Mn s.mem.length mn), (.slice (some ⟨gt, 0, none⟩) s.ths.length vn)], .bool true]) (by simp [results, Tryz.results30, go_sem, r0, r1, hz]) rfl ⟨_, _, _, by rw [HF2.out]; rfl, (by rw [HF2.out]; exact HO9.out.base HB3.out.size), HB9.out⟩
      have e2 : ¬ ((op == 2) = true) := by simpa using h2
      by_cases h3 : op = 3
      · subst h3
        have HLO := Lib.hid (HPX.out.loc (by rfl))
        obtain ⟨l, rfl⟩ : ∃ l : Nat, lc = l := ⟨lc.toNat, by have h := HLO.out.1; dsimp only at h; omega⟩
        have HT := Lib.hid (show stT ⟨3, rg, (l : Int), nn, tn⟩ s.mem ⟨xa, xr, xe, xb⟩ = ⟨xa + 1, xr, xe, xb⟩ from by simp [stT, stR, stE, jumps])
        have HPR := Lib.hid (HPX.out.reg (by rfl))
        obtain ⟨r, rfl⟩ : ∃ r : Nat, rg = r := ⟨rg.toNat, by have := HPR.out.1; dsimp only at this; omega⟩
        have hr4 : r < xr.length := by have h := HPR.out.2; have h' := HXR.out; dsimp only at h h'; omega
        obtain ⟨z, hz⟩ : ∃ z, z = xr[r] := ⟨_, rfl⟩
        have HZE := Lib.hid (show nth xr (r : Int) = z from by rw [hz]; unfold nth; simp [hr4])
        have HRG0 := Lib.hid (show ∃ br fr c, vr = .slice (some ⟨br, fr, none⟩) xr.length c ∧ br < B ∧ w.cell? ⟨br, fr + r, none⟩ = some (.int .i64 z) from by
          obtain ⟨Ar, car, e, -, -, -, hr3⟩ := hRg
          obtain ⟨br, fr, e2, hbr, hcr⟩ := nu_at (c := car) hr3 (by omega)
          subst e e2
          exact ⟨br, fr, car, rfl, hbr, by rw [hz]; exact hcr r hr4⟩)
        clear hz
        have HF3 := Lib.hid (show tsS ⟨3, (r : Int), (l : Int), nn, tn⟩ s k ⟨xa, xr, xe, xb⟩ = ⟨s.mem, s.ths.set k ⟨xa + 1, xr, xe, xb ++ [⟨(l : Int), z⟩]⟩⟩ from by simp [tsS, HZE.out])
        have HQ1' := HQ1
        have i0 := HQ1.out.cell 0 _ rfl
        have n0 := HN.out.cell 0 _ rfl
        have nf := HN.out.frozen 0
        go_upto_region 23 with fail
        obtain ⟨X5, hX5⟩ : ∃ W, W = X4.setCell ⟨gn, 0, none⟩ (.slice Am s.mem.length cm) := ⟨_, rfl⟩
        have HN5 := Lib.hid (show BoxC X5 gn 39 #[.slice Am s.mem.length cm, .slice Vn s.ths.length vn] from by rw [hX5]; exact HN.out.set 0 _)
        have HMO := Lib.hid (show OwnI W3.heap.size X4 (.slice Am s.mem.length cm) s.mem from own_below HOS.out.mem (chain HL2.out HL4.out))
        have HMX := Lib.hid (show OwnI W3.heap.size X2 (.slice Am s.mem.length cm) s.mem from own_below HOS.out.mem HL2.out)
        have HO5 := Lib.hid (show OwnSt W3.heap.size X5 (.slice Am s.mem.length cm) (.slice Vn s.ths.length vn) ⟨s.mem, s.ths.set k (stT ⟨3, (r : Int), (l : Int), nn, tn⟩ s.mem ⟨xa, xr, xe, xb⟩)⟩ ps2 from by
          rw [hX5]
          exact ((HO4.out.base (Nat.le_trans HL3.out.size HL2.out.size)).memRow HMO.out (fun p hp => ap_new HMX.out (HO4.out.each p hp).1 (Nat.le_refl _))).box HN.out (by decide) (by decide) (by decide) 0 _)
        have HGNE := Lib.hid (show gn ≠ gr from by have h1 := HR.out.lt; have h2 := HGN.out; have h3 := HL3.out.size; have h4 := HL2.out.size; omega)
        have HQ95 := Lib.hid (show BoxC X5 g9 75 _ from by rw [hX5]; exact HQ9.out.other (HQ9.out.unlike HN.out (by decide)) _ _)
        have HRR5 := Lib.hid (show BoxC X5 gr 39 #[.slice none 0 0, .slice none 0 0] from by rw [hX5]; exact HRR.out.other (Ne.symm HGNE.out) _ _)
        have HGW := Lib.hid (show W3.heap.size ≤ gn from Nat.le_trans HL3.out.size (Nat.le_trans HL2.out.size HGN.out))
        have HB35 := Lib.hid (show Below W3.heap.size W3 X5 from by rw [hX5]; exact (chain HL3.out (chain HL2.out HL4.out)).setCell (p := ⟨gn, 0, none⟩) HGW.out _)
        have HB5 := Lib.hid (show Below w.heap.size w X5 from by rw [hX5]; exact HBX.out.setCell (p := ⟨gn, 0, none⟩) (Nat.le_trans HB3.out.size HGW.out) _)
        rw [← hX5]
        clear hX5 i0 n0 nf p0
        obtain ⟨vr2, vb2, hpk⟩ := HO5.out.pk (k := k) (by simpa using hks)
        simp only [List.getElem_set_self] at hpk
        obtain ⟨hkp, hpe⟩ := List.getElem?_eq_some_iff.1 hpk
        obtain ⟨gt, cv', cur, hev, hgt, hbv, t0, t1, t2, t3⟩ := HO5.out.row hkp
        rw [List.length_set] at hev
        injection hev with hev1 hev3 hev2
        clear hev3
        subst hev1 hev2
        rw [hpe] at t1 t3
        have HPK' := Lib.hid hpk
        have HOE := Lib.hid (HO5.out.each _ (List.getElem_mem hkp))
        rw [hpe] at HOE
        have HBV := Lib.hid hbv
        have HGT := Lib.hid hgt
        clear hpk hbv hgt hpe t0 t2
        dsimp only at HOE
        rw [HT.out] at HOE HPK'
        rw [HT.out] at HO5
        have o1 := HN5.out.cell 1 _ rfl
        have y1 := (HY.out.below HB35.out HY.out.lt).cell 1 _ rfl
        have b3 := ((HB5.out.mono hBB).cell (p := ⟨b1, f1 + k * 4 + 3, none⟩) hb1).trans HC3.out
        have p2 := HQ95.out.cell 2 _ rfl
        have p1 := HQ95.out.cell 1 _ rfl
        obtain ⟨br, fr, car, hvr, hbr, hcr⟩ := HRG0.out
        have bb2 := ((HB5.out.mono hBB).cell (p := ⟨b1, f1 + k * 4 + 1, none⟩) hb1).trans b2
        rw [hvr] at bb2
        have rr := ((HB5.out.mono hBB).cell (p := ⟨br, fr + r, none⟩) hbr).trans hcr
        clear t1
        have HT3 := Lib.hid t3
        clear t3
        refine wp_region_held_drew (S := (fun w' => w'.cell? ⟨gn, 1, none⟩ = some (.slice (some ⟨gt, 0, none⟩) s.ths.length vn) ∧ w'.cell? ⟨gs, 1, none⟩ = some (.slice (some ⟨b1, f1, none⟩) s.ths.length c1) ∧ w'.cell? ⟨b1, f1 + k * 4 + 3, none⟩ = some (.slice Ab xb.length cb) ∧ w'.cell? ⟨g9, 2, none⟩ = some (.int .i64 (l : Int)) ∧ w'.cell? ⟨g9, 1, none⟩ = some (.int .i64 (r : Int)) ∧ w'.cell? ⟨b1, f1 + k * 4 + 1, none⟩ = some (.slice (some ⟨br, fr, none⟩) xr.length car) ∧ w'.cell? ⟨br, fr + r, none⟩ = some (.int .i64 z) ∧ True)) (by kernel_rfl) ⟨o1, y1, b3, p2, p1, bb2, rr, trivial⟩ (fun hHeld => ?_)
        obtain ⟨X6, hX6⟩ : ∃ W, W = X5.drew := ⟨_, rfl⟩
        have HB6 := Lib.hid (show Below X5.heap.size X5 X6 from by rw [hX6]; exact below_drewN (Below.refl _ _) 1)
        rw [← hX6] at hHeld ⊢
        clear hX6
        refine wtk 0 ?_ ?_ ?_
        rotate_left
        · intro w hSw; (try dsimp only at hSw); go_simp; (try with_reducible rfl)
        (try simp only [Act.put, pt8])
        refine wtk 1 ?_ ?_ ?_
        rotate_left
        · intro w hSw; (try dsimp only at hSw); go_simp; (try with_reducible rfl)
        (try simp only [Act.put, pt8])
        refine wtk 2 ?_ ?_ ?_
        rotate_left
        · intro w hSw; (try dsimp only at hSw); go_simp; (try with_reducible rfl)
        (try simp only [Act.put, pt8])
        refine wtk 3 ?_ ?_ ?_
        rotate_left
        · intro w hSw; (try dsimp only at hSw); go_simp; (try with_reducible rfl)
        (try simp only [Act.put, pt8])
        refine wtk 4 ?_ ?_ ?_
        rotate_left
        · intro w hSw; (try dsimp only at hSw); go_simp; (try with_reducible rfl)
        (try simp only [Act.put, pt8])
        refine wtk 5 ?_ ?_ ?_
        rotate_left
        · intro w hSw; (try dsimp only at hSw); go_simp; (try with_reducible rfl)
        (try simp only [Act.put, pt8])
        refine wtk 6 ?_ ?_ ?_
        rotate_left
        · intro w hSw; (try dsimp only at hSw); go_simp; (try with_reducible rfl)
        (try simp only [Act.put, pt8])
        refine wtk 7 ?_ ?_ ?_
        rotate_left
        · intro w hSw; (try dsimp only at hSw); go_simp; (try with_reducible rfl)
        (try simp only [Act.put, pt8])
        refine wtk 8 ?_ ?_ ?_
        rotate_left
        · intro w hSw; (try dsimp only at hSw); go_simp; (try with_reducible rfl)
        (try simp only [Act.put, pt8])
        refine wtk 9 ?_ ?_ ?_
        rotate_left
        · intro w hSw; (try dsimp only at hSw); go_simp; (try with_reducible rfl)
        (try simp only [Act.put, pt8])
        refine wtk 10 ?_ ?_ ?_
        rotate_left
        · intro w hSw; (try dsimp only at hSw); go_simp; (try with_reducible rfl)
        (try simp only [Act.put, pt8])
        refine wtk 11 ?_ ?_ ?_
        rotate_left
        · intro w hSw; (try dsimp only at hSw); go_simp; (try with_reducible rfl)
        (try simp only [Act.put, pt8])
        refine wtk 12 ?_ ?_ ?_
        rotate_left
        · intro w hSw; (try dsimp only at hSw); go_simp; (try with_reducible rfl)
        (try simp only [Act.put, pt8])
        refine wtk 13 ?_ ?_ ?_
        rotate_left
        · intro w hSw; (try dsimp only at hSw); go_simp; (try with_reducible rfl)
        (try simp only [Act.put, pt8])
        refine wtk 14 ?_ ?_ ?_
        rotate_left
        · intro w hSw; (try dsimp only at hSw); go_simp; (try with_reducible rfl)
        (try simp only [Act.put, pt8])
        refine wtk 15 ?_ ?_ ?_
        rotate_left
        · intro w hSw; (try dsimp only at hSw); go_simp; (try with_reducible rfl)
        (try simp only [Act.put, pt8])
        refine wtk 16 ?_ ?_ ?_
        rotate_left
        · intro w hSw; (try dsimp only at hSw); go_simp; (try with_reducible rfl)
        (try simp only [Act.put, pt8])
        refine wtk 17 ?_ ?_ ?_
        rotate_left
        · intro w hSw; (try dsimp only at hSw); go_simp; (try with_reducible rfl)
        (try simp only [Act.put, pt8])
        refine wtk 18 ?_ ?_ ?_
        rotate_left
        · intro w hSw; (try dsimp only at hSw); go_simp; (try with_reducible rfl)
        (try simp only [Act.put, pt8])
        refine wtk 19 ?_ ?_ ?_
        rotate_left
        · intro w hSw; (try dsimp only at hSw); go_simp; (try with_reducible rfl)
        (try simp only [Act.put, pt8])
        refine wtk 20 ?_ ?_ ?_
        rotate_left
        · intro w hSw; (try dsimp only at hSw); go_simp; (try with_reducible rfl)
        (try simp only [Act.put, pt8])
        refine wtk 21 ?_ ?_ ?_
        rotate_left
        · intro w hSw; (try dsimp only at hSw); go_simp; (try with_reducible rfl)
        (try simp only [Act.put, pt8])
        refine wpAnyH_ready (rs := [22]) (by kernel_rfl) (by simp) ?_
        refine AllReadyH.cons rfl (fun K hK => ?_) AllReadyH.nil
        obtain ⟨q0, q1, q2, q3, q4, q5, q6, -⟩ := hHeld
        go_simp
        refine (HPU.out X6 ⟨(l : Int), z⟩ (chain HB5.out HB6.out)).mono ?_
        rintro e X7 ⟨vu, rfl, hou, hb⟩
        obtain ⟨Bn, bn, rfl⟩ := own_slice (n := xb.length + 1) (show X7.ownsRow _ _ 2 vu (xb.length + 1) _ from by have e := hou; unfold OwnW at e; rw [List.length_append] at e; exact e)
        have HOU := Lib.hid (show OwnW X5.heap.size X7 _ _ from own_base hou HB6.out.size)
        have HB7 := Lib.hid (show Below X5.heap.size X5 X7 from chain HB6.out hb)
        refine hK.out _ _ ⟨kc hb q0, kc hb q1, kc hb q2, kc hb q3, kc hb q4, kc hb q5, kc hb q6, trivial⟩ (fun hHeld => ?_)
        clear q0 q1 q2 q3 q4 q5 q6
        clear hK K
        (try simp only [Act.put, pt8])
        clear hb hou
        have HBV7 := Lib.hid (HBV.out.below HB7.out HBV.out.lt)
        have v7 := HBV7.out.frozen (k * 4 + 3)
        have e7 := kc HB7.out HT3.out
        have HNa := Lib.hid ((HN5.out.below HB7.out HN5.out.lt).unlike HBV7.out (by decide))
        have HNb := Lib.hid (show gs ≠ gt from by have h1 := HY.out.lt; have h2 := HGT.out; omega)
        have HNc := Lib.hid (show b1 ≠ gt from by have h1 := hb1; have h2 := HGT.out; have h3 := HB3.out.size; omega)
        have HNd := Lib.hid ((HQ95.out.below HB7.out HQ95.out.lt).unlike HBV7.out (by decide))
        have HNe := Lib.hid (show br ≠ gt from by have h2 := HGT.out; have h3 := HB3.out.size; omega)
        refine wtk 23 ?_ ?_ ?_
        rotate_left
        · intro w hSw; (try dsimp only at hSw); go_simp; (try with_reducible rfl)
        (try simp only [Act.put, pt8])
        refine wtk 24 ?_ ?_ ?_
        rotate_left
        · intro w hSw; (try dsimp only at hSw); go_simp; (try with_reducible rfl)
        (try simp only [Act.put, pt8])
        refine wpAnyH_ready (rs := [25]) (by kernel_rfl) (by simp) ?_
        refine AllReadyH.cons rfl (fun K hK => ?_) AllReadyH.nil
        obtain ⟨q0, q1, q2, q3, q4, q5, q6, -⟩ := hHeld
        go_simp
        refine hK.out _ _ ⟨st_ne HNa.out q0, st_ne HNb.out q1, st_ne HNc.out q2, st_ne HNd.out q3, st_ne HNd.out q4, st_ne HNc.out q5, st_ne HNe.out q6, trivial⟩ (fun hHeld => ?_)
        clear q0 q1 q2 q3 q4 q5 q6 v7 e7
        clear hK K
        (try simp only [Act.put, pt8])
        refine wpAnyH_done (by kernel_rfl) ?_ _
        clear hHeld o1 y1 b3 p2 p1 bb2 rr
        obtain ⟨X8, hX8⟩ : ∃ W, W = X7.setCell ⟨gt, k * 4 + 3, none⟩ (.slice Bn (xb.length + 1) bn) := ⟨_, rfl⟩
        have HO8 := Lib.hid (show OwnSt W3.heap.size X8 (.slice Am s.mem.length cm) (.slice (some ⟨gt, 0, none⟩) s.ths.length vn) ⟨s.mem, s.ths.set k ⟨xa + 1, xr, xe, xb ++ [⟨(l : Int), z⟩]⟩⟩ (ps2.set k ⟨⟨xa + 1, xr, xe, xb ++ [⟨(l : Int), z⟩]⟩, vr2, .slice Bn (xb.length + 1) bn⟩) from by
          rw [hX8]
          have := (HO5.out.below HB7.out).setVB' HPK'.out (own_base HOU.out HB35.out.size)
          exact this.cast (by rw [List.set_set]))
        have HN8 := Lib.hid (show BoxC X8 gn 39 #[.slice Am s.mem.length cm, .slice (some ⟨gt, 0, none⟩) s.ths.length vn] from by rw [hX8]; exact (HN5.out.below HB7.out HN5.out.lt).other ((HN5.out.below HB7.out HN5.out.lt).unlike (HBV.out.below HB7.out HBV.out.lt) (by decide)) _ _)
        have HRR := Lib.hid (show BoxC X8 gr 39 #[.slice none 0 0, .slice none 0 0] from by rw [hX8]; exact (HRR5.out.below HB7.out HRR5.out.lt).other ((HRR5.out.below HB7.out HRR5.out.lt).unlike (HBV.out.below HB7.out HBV.out.lt) (by decide)) _ _)
        have HB8 := Lib.hid (show Below w.heap.size w X8 from by rw [hX8]; exact (chain HB5.out HB7.out).setCell (p := ⟨gt, k * 4 + 3, none⟩) (Nat.le_trans HB3.out.size HGT.out) _)
        rw [← hX8]
        clear hX8
        have z0 := HN8.out.cell 0 _ rfl
        have z1 := HN8.out.cell 1 _ rfl
        have r0 := HRR.out.cell 0 _ rfl
        have r1 := HRR.out.cell 1 _ rfl
        have f0 := HRR.out.frozen 0
        have f1 := HRR.out.frozen 1
        obtain ⟨W9, hW9⟩ : ∃ W, W = (X8.setCell ⟨gr, 0, none⟩ (.slice Am s.mem.length cm)).setCell ⟨gr, 1, none⟩ (.slice (some ⟨gt, 0, none⟩) s.ths.length vn) := ⟨_, rfl⟩
        have HR9 := Lib.hid (show BoxC W9 gr 39 #[(.slice Am s.mem.length cm), (.slice (some ⟨gt, 0, none⟩) s.ths.length vn)] from by rw [hW9]; exact (HRR.out.set 0 _).set 1 _)
        have HO9 := Lib.hid (show OwnSt W3.heap.size W9 (.slice Am s.mem.length cm) (.slice (some ⟨gt, 0, none⟩) s.ths.length vn) (tsS ⟨3, (r : Int), (l : Int), nn, tn⟩ s k ⟨xa, xr, xe, xb⟩) (ps2.set k ⟨⟨xa + 1, xr, xe, xb ++ [⟨(l : Int), z⟩]⟩, vr2, .slice Bn (xb.length + 1) bn⟩) from by
          rw [hW9]
          exact ((HO8.out.cast HF3.out.symm).box HRR.out (by decide) (by decide) (by decide) 0 _).box (HRR.out.set 0 _) (by decide) (by decide) (by decide) 1 _)
        have HB9 := Lib.hid (show Below w.heap.size w W9 from by rw [hW9]; exact (HB8.out.setCell (p := ⟨gr, 0, none⟩) HGR.out _).setCell (p := ⟨gr, 1, none⟩) HGR.out _)
        have HW9 := Lib.hid hW9
        clear hW9
        go_wp2_with fail
        rw [← HW9.out]
        clear r0 r1 f0 f1
        have r0 := HR9.out.cell 0 _ rfl
        have r1 := HR9.out.cell 1 _ rfl
        have hz := HCO.out
        refine bodyPost_ret (v := .tuple #[.agg #[(.slice Am s.mem.length cm), (.slice (some ⟨gt, 0, none⟩) s.ths.length vn)], .bool true]) (by simp [results, Tryz.results30, go_sem, r0, r1, hz]) rfl ⟨_, _, _, by rw [HF2.out]; rfl, (by rw [HF2.out]; exact HO9.out.base HB3.out.size), HB9.out⟩
      have e3 : ¬ ((op == 3) = true) := by simpa using h3
      by_cases h4 : op = 4
      · subst h4
        have HLO := Lib.hid (HPX.out.loc (by rfl))
        obtain ⟨l, rfl⟩ : ∃ l : Nat, lc = l := ⟨lc.toNat, by have h := HLO.out.1; dsimp only at h; omega⟩
        have HT := Lib.hid (show stT ⟨4, rg, (l : Int), nn, tn⟩ s.mem ⟨xa, xr, xe, xb⟩ = ⟨xa + 1, xr, xe, xb⟩ from by simp [stT, stR, stE, jumps])
        obtain ⟨z, hz⟩ : ∃ z, z = nn := ⟨_, rfl⟩
        have HZE := Lib.hid hz.symm
        clear hz
        have HF3 := Lib.hid (show tsS ⟨4, rg, (l : Int), nn, tn⟩ s k ⟨xa, xr, xe, xb⟩ = ⟨s.mem, s.ths.set k ⟨xa + 1, xr, xe, xb ++ [⟨(l : Int), z⟩]⟩⟩ from by simp [tsS, HZE.out])
        have HQ1' := HQ1
        have i0 := HQ1.out.cell 0 _ rfl
        have n0 := HN.out.cell 0 _ rfl
        have nf := HN.out.frozen 0
        go_upto_region 26 with fail
        obtain ⟨X5, hX5⟩ : ∃ W, W = X4.setCell ⟨gn, 0, none⟩ (.slice Am s.mem.length cm) := ⟨_, rfl⟩
        have HN5 := Lib.hid (show BoxC X5 gn 39 #[.slice Am s.mem.length cm, .slice Vn s.ths.length vn] from by rw [hX5]; exact HN.out.set 0 _)
        have HMO := Lib.hid (show OwnI W3.heap.size X4 (.slice Am s.mem.length cm) s.mem from own_below HOS.out.mem (chain HL2.out HL4.out))
        have HMX := Lib.hid (show OwnI W3.heap.size X2 (.slice Am s.mem.length cm) s.mem from own_below HOS.out.mem HL2.out)
        have HO5 := Lib.hid (show OwnSt W3.heap.size X5 (.slice Am s.mem.length cm) (.slice Vn s.ths.length vn) ⟨s.mem, s.ths.set k (stT ⟨4, rg, (l : Int), nn, tn⟩ s.mem ⟨xa, xr, xe, xb⟩)⟩ ps2 from by
          rw [hX5]
          exact ((HO4.out.base (Nat.le_trans HL3.out.size HL2.out.size)).memRow HMO.out (fun p hp => ap_new HMX.out (HO4.out.each p hp).1 (Nat.le_refl _))).box HN.out (by decide) (by decide) (by decide) 0 _)
        have HGNE := Lib.hid (show gn ≠ gr from by have h1 := HR.out.lt; have h2 := HGN.out; have h3 := HL3.out.size; have h4 := HL2.out.size; omega)
        have HQ95 := Lib.hid (show BoxC X5 g9 75 _ from by rw [hX5]; exact HQ9.out.other (HQ9.out.unlike HN.out (by decide)) _ _)
        have HRR5 := Lib.hid (show BoxC X5 gr 39 #[.slice none 0 0, .slice none 0 0] from by rw [hX5]; exact HRR.out.other (Ne.symm HGNE.out) _ _)
        have HGW := Lib.hid (show W3.heap.size ≤ gn from Nat.le_trans HL3.out.size (Nat.le_trans HL2.out.size HGN.out))
        have HB35 := Lib.hid (show Below W3.heap.size W3 X5 from by rw [hX5]; exact (chain HL3.out (chain HL2.out HL4.out)).setCell (p := ⟨gn, 0, none⟩) HGW.out _)
        have HB5 := Lib.hid (show Below w.heap.size w X5 from by rw [hX5]; exact HBX.out.setCell (p := ⟨gn, 0, none⟩) (Nat.le_trans HB3.out.size HGW.out) _)
        rw [← hX5]
        clear hX5 i0 n0 nf p0
        obtain ⟨vr2, vb2, hpk⟩ := HO5.out.pk (k := k) (by simpa using hks)
        simp only [List.getElem_set_self] at hpk
        obtain ⟨hkp, hpe⟩ := List.getElem?_eq_some_iff.1 hpk
        obtain ⟨gt, cv', cur, hev, hgt, hbv, t0, t1, t2, t3⟩ := HO5.out.row hkp
        rw [List.length_set] at hev
        injection hev with hev1 hev3 hev2
        clear hev3
        subst hev1 hev2
        rw [hpe] at t1 t3
        have HPK' := Lib.hid hpk
        have HOE := Lib.hid (HO5.out.each _ (List.getElem_mem hkp))
        rw [hpe] at HOE
        have HBV := Lib.hid hbv
        have HGT := Lib.hid hgt
        clear hpk hbv hgt hpe t0 t2
        dsimp only at HOE
        rw [HT.out] at HOE HPK'
        rw [HT.out] at HO5
        have o1 := HN5.out.cell 1 _ rfl
        have y1 := (HY.out.below HB35.out HY.out.lt).cell 1 _ rfl
        have b3 := ((HB5.out.mono hBB).cell (p := ⟨b1, f1 + k * 4 + 3, none⟩) hb1).trans HC3.out
        have p2 := HQ95.out.cell 2 _ rfl
        have p3 := HQ95.out.cell 3 _ rfl
        skip
        clear t1
        have HT3 := Lib.hid t3
        clear t3
        refine wp_region_held_drew (S := (fun w' => w'.cell? ⟨gn, 1, none⟩ = some (.slice (some ⟨gt, 0, none⟩) s.ths.length vn) ∧ w'.cell? ⟨gs, 1, none⟩ = some (.slice (some ⟨b1, f1, none⟩) s.ths.length c1) ∧ w'.cell? ⟨b1, f1 + k * 4 + 3, none⟩ = some (.slice Ab xb.length cb) ∧ w'.cell? ⟨g9, 2, none⟩ = some (.int .i64 (l : Int)) ∧ w'.cell? ⟨g9, 3, none⟩ = some (.int .i64 nn) ∧ True)) (by kernel_rfl) ⟨o1, y1, b3, p2, p3, trivial⟩ (fun hHeld => ?_)
        obtain ⟨X6, hX6⟩ : ∃ W, W = X5.drew := ⟨_, rfl⟩
        have HB6 := Lib.hid (show Below X5.heap.size X5 X6 from by rw [hX6]; exact below_drewN (Below.refl _ _) 1)
        rw [← hX6] at hHeld ⊢
        clear hX6
        refine wtk 0 ?_ ?_ ?_
        rotate_left
        · intro w hSw; (try dsimp only at hSw); go_simp; (try with_reducible rfl)
        (try simp only [Act.put, pt8])
        refine wtk 1 ?_ ?_ ?_
        rotate_left
        · intro w hSw; (try dsimp only at hSw); go_simp; (try with_reducible rfl)
        (try simp only [Act.put, pt8])
        refine wtk 2 ?_ ?_ ?_
        rotate_left
        · intro w hSw; (try dsimp only at hSw); go_simp; (try with_reducible rfl)
        (try simp only [Act.put, pt8])
        refine wtk 3 ?_ ?_ ?_
        rotate_left
        · intro w hSw; (try dsimp only at hSw); go_simp; (try with_reducible rfl)
        (try simp only [Act.put, pt8])
        refine wtk 4 ?_ ?_ ?_
        rotate_left
        · intro w hSw; (try dsimp only at hSw); go_simp; (try with_reducible rfl)
        (try simp only [Act.put, pt8])
        refine wtk 5 ?_ ?_ ?_
        rotate_left
        · intro w hSw; (try dsimp only at hSw); go_simp; (try with_reducible rfl)
        (try simp only [Act.put, pt8])
        refine wtk 6 ?_ ?_ ?_
        rotate_left
        · intro w hSw; (try dsimp only at hSw); go_simp; (try with_reducible rfl)
        (try simp only [Act.put, pt8])
        refine wtk 7 ?_ ?_ ?_
        rotate_left
        · intro w hSw; (try dsimp only at hSw); go_simp; (try with_reducible rfl)
        (try simp only [Act.put, pt8])
        refine wtk 8 ?_ ?_ ?_
        rotate_left
        · intro w hSw; (try dsimp only at hSw); go_simp; (try with_reducible rfl)
        (try simp only [Act.put, pt8])
        refine wtk 9 ?_ ?_ ?_
        rotate_left
        · intro w hSw; (try dsimp only at hSw); go_simp; (try with_reducible rfl)
        (try simp only [Act.put, pt8])
        refine wtk 10 ?_ ?_ ?_
        rotate_left
        · intro w hSw; (try dsimp only at hSw); go_simp; (try with_reducible rfl)
        (try simp only [Act.put, pt8])
        refine wtk 11 ?_ ?_ ?_
        rotate_left
        · intro w hSw; (try dsimp only at hSw); go_simp; (try with_reducible rfl)
        (try simp only [Act.put, pt8])
        refine wtk 12 ?_ ?_ ?_
        rotate_left
        · intro w hSw; (try dsimp only at hSw); go_simp; (try with_reducible rfl)
        (try simp only [Act.put, pt8])
        refine wtk 13 ?_ ?_ ?_
        rotate_left
        · intro w hSw; (try dsimp only at hSw); go_simp; (try with_reducible rfl)
        (try simp only [Act.put, pt8])
        refine wpAnyH_ready (rs := [14]) (by kernel_rfl) (by simp) ?_
        refine AllReadyH.cons rfl (fun K hK => ?_) AllReadyH.nil
        obtain ⟨q0, q1, q2, q3, q4, -⟩ := hHeld
        go_simp
        rw [HZE.out]
        refine (HPU.out X6 ⟨(l : Int), z⟩ (chain HB5.out HB6.out)).mono ?_
        rintro e X7 ⟨vu, rfl, hou, hb⟩
        obtain ⟨Bn, bn, rfl⟩ := own_slice (n := xb.length + 1) (show X7.ownsRow _ _ 2 vu (xb.length + 1) _ from by have e := hou; unfold OwnW at e; rw [List.length_append] at e; exact e)
        have HOU := Lib.hid (show OwnW X5.heap.size X7 _ _ from own_base hou HB6.out.size)
        have HB7 := Lib.hid (show Below X5.heap.size X5 X7 from chain HB6.out hb)
        refine hK.out _ _ ⟨kc hb q0, kc hb q1, kc hb q2, kc hb q3, kc hb q4, trivial⟩ (fun hHeld => ?_)
        clear q0 q1 q2 q3 q4
        clear hK K
        (try simp only [Act.put, pt8])
        clear hb hou
        have HBV7 := Lib.hid (HBV.out.below HB7.out HBV.out.lt)
        have v7 := HBV7.out.frozen (k * 4 + 3)
        have e7 := kc HB7.out HT3.out
        have HNa := Lib.hid ((HN5.out.below HB7.out HN5.out.lt).unlike HBV7.out (by decide))
        have HNb := Lib.hid (show gs ≠ gt from by have h1 := HY.out.lt; have h2 := HGT.out; omega)
        have HNc := Lib.hid (show b1 ≠ gt from by have h1 := hb1; have h2 := HGT.out; have h3 := HB3.out.size; omega)
        have HNd := Lib.hid ((HQ95.out.below HB7.out HQ95.out.lt).unlike HBV7.out (by decide))
        refine wtk 15 ?_ ?_ ?_
        rotate_left
        · intro w hSw; (try dsimp only at hSw); go_simp; (try with_reducible rfl)
        (try simp only [Act.put, pt8])
        refine wtk 16 ?_ ?_ ?_
        rotate_left
        · intro w hSw; (try dsimp only at hSw); go_simp; (try with_reducible rfl)
        (try simp only [Act.put, pt8])
        refine wpAnyH_ready (rs := [17]) (by kernel_rfl) (by simp) ?_
        refine AllReadyH.cons rfl (fun K hK => ?_) AllReadyH.nil
        obtain ⟨q0, q1, q2, q3, q4, -⟩ := hHeld
        go_simp
        refine hK.out _ _ ⟨st_ne HNa.out q0, st_ne HNb.out q1, st_ne HNc.out q2, st_ne HNd.out q3, st_ne HNd.out q4, trivial⟩ (fun hHeld => ?_)
        clear q0 q1 q2 q3 q4 v7 e7
        clear hK K
        (try simp only [Act.put, pt8])
        refine wpAnyH_done (by kernel_rfl) ?_ _
        clear hHeld o1 y1 b3 p2 p3
        obtain ⟨X8, hX8⟩ : ∃ W, W = X7.setCell ⟨gt, k * 4 + 3, none⟩ (.slice Bn (xb.length + 1) bn) := ⟨_, rfl⟩
        have HO8 := Lib.hid (show OwnSt W3.heap.size X8 (.slice Am s.mem.length cm) (.slice (some ⟨gt, 0, none⟩) s.ths.length vn) ⟨s.mem, s.ths.set k ⟨xa + 1, xr, xe, xb ++ [⟨(l : Int), z⟩]⟩⟩ (ps2.set k ⟨⟨xa + 1, xr, xe, xb ++ [⟨(l : Int), z⟩]⟩, vr2, .slice Bn (xb.length + 1) bn⟩) from by
          rw [hX8]
          have := (HO5.out.below HB7.out).setVB' HPK'.out (own_base HOU.out HB35.out.size)
          exact this.cast (by rw [List.set_set]))
        have HN8 := Lib.hid (show BoxC X8 gn 39 #[.slice Am s.mem.length cm, .slice (some ⟨gt, 0, none⟩) s.ths.length vn] from by rw [hX8]; exact (HN5.out.below HB7.out HN5.out.lt).other ((HN5.out.below HB7.out HN5.out.lt).unlike (HBV.out.below HB7.out HBV.out.lt) (by decide)) _ _)
        have HRR := Lib.hid (show BoxC X8 gr 39 #[.slice none 0 0, .slice none 0 0] from by rw [hX8]; exact (HRR5.out.below HB7.out HRR5.out.lt).other ((HRR5.out.below HB7.out HRR5.out.lt).unlike (HBV.out.below HB7.out HBV.out.lt) (by decide)) _ _)
        have HB8 := Lib.hid (show Below w.heap.size w X8 from by rw [hX8]; exact (chain HB5.out HB7.out).setCell (p := ⟨gt, k * 4 + 3, none⟩) (Nat.le_trans HB3.out.size HGT.out) _)
        rw [← hX8]
        clear hX8
        have z0 := HN8.out.cell 0 _ rfl
        have z1 := HN8.out.cell 1 _ rfl
        have r0 := HRR.out.cell 0 _ rfl
        have r1 := HRR.out.cell 1 _ rfl
        have f0 := HRR.out.frozen 0
        have f1 := HRR.out.frozen 1
        obtain ⟨W9, hW9⟩ : ∃ W, W = (X8.setCell ⟨gr, 0, none⟩ (.slice Am s.mem.length cm)).setCell ⟨gr, 1, none⟩ (.slice (some ⟨gt, 0, none⟩) s.ths.length vn) := ⟨_, rfl⟩
        have HR9 := Lib.hid (show BoxC W9 gr 39 #[(.slice Am s.mem.length cm), (.slice (some ⟨gt, 0, none⟩) s.ths.length vn)] from by rw [hW9]; exact (HRR.out.set 0 _).set 1 _)
        have HO9 := Lib.hid (show OwnSt W3.heap.size W9 (.slice Am s.mem.length cm) (.slice (some ⟨gt, 0, none⟩) s.ths.length vn) (tsS ⟨4, rg, (l : Int), nn, tn⟩ s k ⟨xa, xr, xe, xb⟩) (ps2.set k ⟨⟨xa + 1, xr, xe, xb ++ [⟨(l : Int), z⟩]⟩, vr2, .slice Bn (xb.length + 1) bn⟩) from by
          rw [hW9]
          exact ((HO8.out.cast HF3.out.symm).box HRR.out (by decide) (by decide) (by decide) 0 _).box (HRR.out.set 0 _) (by decide) (by decide) (by decide) 1 _)
        have HB9 := Lib.hid (show Below w.heap.size w W9 from by rw [hW9]; exact (HB8.out.setCell (p := ⟨gr, 0, none⟩) HGR.out _).setCell (p := ⟨gr, 1, none⟩) HGR.out _)
        have HW9 := Lib.hid hW9
        clear hW9
        go_wp2_with fail
        rw [← HW9.out]
        clear r0 r1 f0 f1
        have r0 := HR9.out.cell 0 _ rfl
        have r1 := HR9.out.cell 1 _ rfl
        have hz := HCO.out
        refine bodyPost_ret (v := .tuple #[.agg #[(.slice Am s.mem.length cm), (.slice (some ⟨gt, 0, none⟩) s.ths.length vn)], .bool true]) (by simp [results, Tryz.results30, go_sem, r0, r1, hz]) rfl ⟨_, _, _, by rw [HF2.out]; rfl, (by rw [HF2.out]; exact HO9.out.base HB3.out.size), HB9.out⟩
      have e4 : ¬ ((op == 4) = true) := by simpa using h4
      have HF3 := Lib.hid (show tsS ⟨op, rg, lc, nn, tn⟩ s k ⟨xa, xr, xe, xb⟩ = ⟨stM ⟨op, rg, lc, nn, tn⟩ s.mem xr, s.ths.set k (stT ⟨op, rg, lc, nn, tn⟩ s.mem ⟨xa, xr, xe, xb⟩)⟩ from by unfold tsS; simp only [h2, h3, h4, if_false])
      clear h2 h3 h4
      go_upto_region 27 with fail
      clear p0 e2 e3 e4
      have z0 := HN.out.cell 0 _ rfl
      have z1 := HN.out.cell 1 _ rfl
      have r0 := HRR.out.cell 0 _ rfl
      have r1 := HRR.out.cell 1 _ rfl
      have f0 := HRR.out.frozen 0
      have f1 := HRR.out.frozen 1
      obtain ⟨W9, hW9⟩ : ∃ W, W = (X4.setCell ⟨gr, 0, none⟩ (.slice Mn s.mem.length mn)).setCell ⟨gr, 1, none⟩ (.slice Vn s.ths.length vn) := ⟨_, rfl⟩
      have HR9 := Lib.hid (show BoxC W9 gr 39 #[(.slice Mn s.mem.length mn), (.slice Vn s.ths.length vn)] from by rw [hW9]; exact (HRR.out.set 0 _).set 1 _)
      have HO9 := Lib.hid (show OwnSt W3.heap.size W9 (.slice Mn s.mem.length mn) (.slice Vn s.ths.length vn) (tsS ⟨op, rg, lc, nn, tn⟩ s k ⟨xa, xr, xe, xb⟩) ps2 from by
        rw [hW9]
        exact (((HO4.out.base (Nat.le_trans HL3.out.size HL2.out.size)).cast HF3.out.symm).box HRR.out (by decide) (by decide) (by decide) 0 _).box (HRR.out.set 0 _) (by decide) (by decide) (by decide) 1 _)
      have HB9 := Lib.hid (show Below w.heap.size w W9 from by rw [hW9]; exact (HBX.out.setCell (p := ⟨gr, 0, none⟩) HGR.out _).setCell (p := ⟨gr, 1, none⟩) HGR.out _)
      have HW9 := Lib.hid hW9
      clear hW9
      go_wp2_with fail
      rw [← HW9.out]
      clear r0 r1 f0 f1
      have r0 := HR9.out.cell 0 _ rfl
      have r1 := HR9.out.cell 1 _ rfl
      have hz := HCO.out
      refine bodyPost_ret (v := .tuple #[.agg #[(.slice Mn s.mem.length mn), (.slice Vn s.ths.length vn)], .bool true]) (by simp [results, Tryz.results30, go_sem, r0, r1, hz]) rfl ⟨_, _, _, by rw [HF2.out]; rfl, (by rw [HF2.out]; exact HO9.out.base HB3.out.size), HB9.out⟩

    · have HF2 := Lib.hid (show tst P s (k : Int) false = some (tsS ⟨op, rg, lc, nn, tn⟩ s k ⟨xa, xr, xe, xb⟩) from by rw [HFE.out, if_neg (by have : xb = [] := List.eq_nil_of_length_eq_zero (by omega); simp [stuck, this])])
      go_upto_region 16 with fail
      clear y1 b3 p0 z0 z1 HFE hbl
      have HBX := Lib.hid (chain HBF.out HL2.out)
      have x0 := ((HX.out.below HL3.out HX.out.lt).below HL2.out (HX.out.below HL3.out HX.out.lt).lt).cell 0 _ rfl
      have x1 := ((HX.out.below HL3.out HX.out.lt).below HL2.out (HX.out.below HL3.out HX.out.lt).lt).cell 1 _ rfl
      have y0 := ((HY.out.below HL3.out HY.out.lt).below HL2.out (HY.out.below HL3.out HY.out.lt).lt).cell 0 _ rfl
      have y1 := ((HY.out.below HL3.out HY.out.lt).below HL2.out (HY.out.below HL3.out HY.out.lt).lt).cell 1 _ rfl
      go_wp2_with fail
      refine (HST.out _ HBX.out).mono ?_
      rintro e w3 ⟨vm2, vt2, ps2, rfl, hos2, hb3⟩
      rw [HAE.out]
      rw [HSE.out] at hos2
      obtain ⟨Mn, mn, rfl⟩ := own_slice (n := s.mem.length) (show w3.ownsRow _ _ 1 vm2 s.mem.length _ from by have e := hos2.mem; unfold OwnI at e; rwa [stM_len] at e)
      obtain ⟨Vn, vn, rfl⟩ := own_slice (n := s.ths.length) (by have e := hos2.ths; rwa [List.length_set] at e)
      have HO2 := Lib.hid hos2
      have HB4 := Lib.hid hb3
      clear hos2 hb3 x0 x1 y0 y1 HST
      go_upto_region 17 with fail
      obtain ⟨X4, hX4⟩ : ∃ W, W = w3.alloc (.cells #[.slice Mn s.mem.length mn, .slice Vn s.ths.length vn] 39) := ⟨_, rfl⟩
      obtain ⟨gn, hgn⟩ : ∃ g, g = w3.heap.size := ⟨_, rfl⟩
      have HN := Lib.hid (show BoxC X4 gn 39 #[.slice Mn s.mem.length mn, .slice Vn s.ths.length vn] from by rw [hX4, hgn]; exact BoxC.new w3 _ _)
      have HL4 := Lib.hid (show Below X2.heap.size X2 X4 from by rw [hX4]; exact below_al HB4.out _)
      have HO4 := Lib.hid (show OwnSt X2.heap.size X4 (.slice Mn s.mem.length mn) (.slice Vn s.ths.length vn) ⟨stM ⟨op, rg, lc, nn, tn⟩ s.mem xr, s.ths.set k (stT ⟨op, rg, lc, nn, tn⟩ s.mem ⟨xa, xr, xe, xb⟩)⟩ ps2 from by rw [hX4]; exact HO2.out.below (below_al (Below.refl _ _) _))
      have HGN := Lib.hid (show X2.heap.size ≤ gn from by rw [hgn]; exact HB4.out.size)
      rw [← hX4]
      (try rw [← hgn])
      clear hX4 hgn HO2 HB4
      replace HQ9 := Lib.hid (HQ9.out.below HL4.out HQ9.out.lt)
      replace HRR := Lib.hid (HRR.out.below HL4.out HRR.out.lt)
      replace HQ1 := Lib.hid (HQ1.out.below HL4.out HQ1.out.lt)
      replace HBX := Lib.hid (chain HBX.out HL4.out)
      have p0 := HQ9.out.cell 0 _ rfl
      by_cases h2 : op = 2
      · subst h2
        have HPR := Lib.hid (HPX.out.reg (by rfl))
        have HF3 := Lib.hid (show tsS ⟨2, rg, lc, nn, tn⟩ s k ⟨xa, xr, xe, xb⟩ = ⟨s.mem, s.ths.set k ⟨xa + 1, xr.set rg.toNat ((BfM.view xb s.mem lc).getD 0), xe, xb⟩⟩ from by unfold tsS; rw [if_pos rfl])
        obtain ⟨n9, b9, HVV⟩ : ∃ n b, Hid (viewV xb s.mem lc = .tuple #[.int .i64 n, .bool b] ∧ n = (BfM.view xb s.mem lc).getD 0) := by
          unfold viewV
          cases BfM.view xb s.mem lc with
          | none => exact ⟨0, false, Lib.hid ⟨rfl, rfl⟩⟩
          | some n => exact ⟨n, true, Lib.hid ⟨rfl, rfl⟩⟩
        have y0 := (((HY.out.below HL3.out HY.out.lt).below HL2.out (HY.out.below HL3.out HY.out.lt).lt).below HL4.out ((HY.out.below HL3.out HY.out.lt).below HL2.out (HY.out.below HL3.out HY.out.lt).lt).lt).cell 0 _ rfl
        have y1 := (((HY.out.below HL3.out HY.out.lt).below HL2.out (HY.out.below HL3.out HY.out.lt).lt).below HL4.out ((HY.out.below HL3.out HY.out.lt).below HL2.out (HY.out.below HL3.out HY.out.lt).lt).lt).cell 1 _ rfl
        have b3 := ((HBX.out.mono hBB).cell (p := ⟨b1, f1 + k * 4 + 3, none⟩) hb1).trans HC3.out
        have p2 := HQ9.out.cell 2 _ rfl
        go_upto_region 19 with fail
        refine wp_region_held_drew (S := (fun w' => w'.cell? ⟨gs, 0, none⟩ = some (.slice A7 s.mem.length c7) ∧ w'.cell? ⟨gs, 1, none⟩ = some (.slice (some ⟨b1, f1, none⟩) s.ths.length c1) ∧ w'.cell? ⟨b1, f1 + k * 4 + 3, none⟩ = some (.slice Ab xb.length cb) ∧ w'.cell? ⟨g9, 2, none⟩ = some (.int .i64 lc) ∧ Below X4.heap.size X4 w')) (by kernel_rfl) ⟨y0, y1, b3, p2, below_drewN (Below.refl _ _) 1⟩ (fun hHeld => ?_)
        obtain ⟨Xs, hXs⟩ : ∃ W, W = X4.drew := ⟨_, rfl⟩
        rw [← hXs] at hHeld ⊢
        clear hXs
        refine wtk 0 ?_ ?_ ?_
        rotate_left
        · intro w hSw; (try dsimp only at hSw); go_simp; (try with_reducible rfl)
        (try simp only [Act.put, pt8])
        refine wtk 1 ?_ ?_ ?_
        rotate_left
        · intro w hSw; (try dsimp only at hSw); go_simp; (try with_reducible rfl)
        (try simp only [Act.put, pt8])
        refine wtk 2 ?_ ?_ ?_
        rotate_left
        · intro w hSw; (try dsimp only at hSw); go_simp; (try with_reducible rfl)
        (try simp only [Act.put, pt8])
        refine wtk 3 ?_ ?_ ?_
        rotate_left
        · intro w hSw; (try dsimp only at hSw); go_simp; (try with_reducible rfl)
        (try simp only [Act.put, pt8])
        refine wtk 4 ?_ ?_ ?_
        rotate_left
        · intro w hSw; (try dsimp only at hSw); go_simp; (try with_reducible rfl)
        (try simp only [Act.put, pt8])
        refine wtk 5 ?_ ?_ ?_
        rotate_left
        · intro w hSw; (try dsimp only at hSw); go_simp; (try with_reducible rfl)
        (try simp only [Act.put, pt8])
        refine wtk 6 ?_ ?_ ?_
        rotate_left
        · intro w hSw; (try dsimp only at hSw); go_simp; (try with_reducible rfl)
        (try simp only [Act.put, pt8])
        refine wtk 7 ?_ ?_ ?_
        rotate_left
        · intro w hSw; (try dsimp only at hSw); go_simp; (try with_reducible rfl)
        (try simp only [Act.put, pt8])
        refine wtk 8 ?_ ?_ ?_
        rotate_left
        · intro w hSw; (try dsimp only at hSw); go_simp; (try with_reducible rfl)
        (try simp only [Act.put, pt8])
        refine wtk 9 ?_ ?_ ?_
        rotate_left
        · intro w hSw; (try dsimp only at hSw); go_simp; (try with_reducible rfl)
        (try simp only [Act.put, pt8])
        refine wpAnyH_ready (rs := [10]) (by kernel_rfl) (by simp) ?_
        refine AllReadyH.cons rfl (fun K hK => ?_) AllReadyH.nil
        obtain ⟨q0, q1, q2, q3, q4⟩ := hHeld
        go_simp
        refine (HVW.out _ (chain HBX.out q4)).mono ?_
        rintro e X5 ⟨rfl, hb⟩
        rw [HVV.out.1]
        have HB5 := Lib.hid (show Below X4.heap.size X4 X5 from chain q4 hb)
        refine hK.out _ _ ⟨kc hb q0, kc hb q1, kc hb q2, kc hb q3, chain q4 hb⟩ (fun hHeld => ?_)
        clear q0 q1 q2 q3 q4
        clear hK K
        (try simp only [Act.put, pt8])
        clear hb
        refine wtk 11 ?_ ?_ ?_
        rotate_left
        · intro w hSw; (try dsimp only at hSw); go_simp; (try with_reducible rfl)
        (try simp only [Act.put, pt8])
        refine wtk 12 ?_ ?_ ?_
        rotate_left
        · intro w hSw; (try dsimp only at hSw); go_simp; (try with_reducible rfl)
        (try simp only [Act.put, pt8])
        refine wtk 13 ?_ ?_ ?_
        rotate_left
        · intro w hSw; (try dsimp only at hSw); go_simp; (try with_reducible rfl)
        (try simp only [Act.put, pt8])
        refine wpAnyH_ready (rs := [14]) (by kernel_rfl) (by simp) ?_
        refine AllReadyH.cons rfl (fun K hK => ?_) AllReadyH.nil
        go_simp
        refine hK.out _ _ hHeld (fun hHeld => ?_)
        clear hK K
        (try simp only [Act.put, pt8])
        refine wpAnyH_ready (rs := [15]) (by kernel_rfl) (by simp) ?_
        refine AllReadyH.cons rfl (fun K hK => ?_) AllReadyH.nil
        go_simp
        refine hK.out _ _ hHeld (fun hHeld => ?_)
        clear hK K
        (try simp only [Act.put, pt8])
        refine wpAnyH_done (by kernel_rfl) ?_ _
        clear hHeld y0 y1 b3 p0 p2
        obtain ⟨j, rfl⟩ : ∃ j : Nat, rg = j := ⟨rg.toNat, by have := HPR.out.1; dsimp only at this; omega⟩
        have hj4 : j < xr.length := by have h := HPR.out.2; have h' := HXR.out; dsimp only at h h'; omega
        have HT := Lib.hid (show stT ⟨2, (j : Int), lc, nn, tn⟩ s.mem ⟨xa, xr, xe, xb⟩ = ⟨xa + 1, xr.set j (nth s.mem lc), xe, xb⟩ from by simp [stT, stR, stE, jumps])
        have HM := Lib.hid (show ScM.stM ⟨2, (j : Int), lc, nn, tn⟩ s.mem xr = s.mem from by simp [ScM.stM])
        have HO5 := Lib.hid (HO4.out.below HB5.out)
        have HN5 := Lib.hid (HN.out.below HB5.out HN.out.lt)
        have HQ95 := Lib.hid (HQ9.out.below HB5.out HQ9.out.lt)
        have HRR5 := Lib.hid (HRR.out.below HB5.out HRR.out.lt)
        rw [HM.out] at HO5
        obtain ⟨vr2, vb2, hpk⟩ := HO5.out.pk (k := k) (by simpa using hks)
        simp only [List.getElem_set_self] at hpk
        obtain ⟨hkp, hpe⟩ := List.getElem?_eq_some_iff.1 hpk
        obtain ⟨gt, cv', cur, hev, hgt, hbv, t0, t1, t2, t3⟩ := HO5.out.row hkp
        rw [List.length_set] at hev
        injection hev with hev1 hev3 hev2
        clear hev3
        subst hev1 hev2
        rw [hpe] at t1 t3
        have HPK' := Lib.hid hpk
        have HOE := Lib.hid (HO5.out.each _ (List.getElem_mem hkp))
        rw [hpe] at HOE
        have HBV := Lib.hid hbv
        have HGT := Lib.hid hgt
        clear hpk hbv hgt hpe t0 t2
        dsimp only at HOE
        rw [HT.out] at HOE HPK'
        rw [HT.out] at HO5
        obtain ⟨gv, cr, curr, hvr, hgv, hbr, hcr⟩ := own_nu (l := xr.set j (nth s.mem lc)) HOE.out.1 (j := j) (by simpa using hj4)
        subst hvr
        have HBR := Lib.hid hbr
        have HGV := Lib.hid hgv
        have HCR := Lib.hid hcr
        clear hbr hgv hcr t3
        have HN1 := Lib.hid (HBV.out.unlike HBR.out (by decide))
        have HN2 := Lib.hid (HQ95.out.unlike HBR.out (by decide))
        have HN3 := Lib.hid (HN5.out.unlike HBR.out (by decide))
        have o1 := HN5.out.cell 1 _ rfl
        have p1 := HQ95.out.cell 1 _ rfl
        go_upto_region 20 with fail
        refine wp_region_held_drew (S := (fun w' => w'.cell? ⟨gn, 1, none⟩ = some (.slice (some ⟨gt, 0, none⟩) s.ths.length vn) ∧ w'.cell? ⟨gt, k * 4 + 1, none⟩ = some (.slice (some ⟨gv, 0, none⟩) (xr.set j (nth s.mem lc)).length cr) ∧ w'.cell? ⟨g9, 1, none⟩ = some (.int .i64 (j : Int)) ∧ True)) (by kernel_rfl) ⟨o1, t1, p1, trivial⟩ (fun hHeld => ?_)
        obtain ⟨X6, hX6⟩ : ∃ W, W = X5.drew := ⟨_, rfl⟩
        have HB6 := Lib.hid (show Below X5.heap.size X5 X6 from by rw [hX6]; exact below_drewN (Below.refl _ _) 1)
        rw [← hX6] at hHeld ⊢
        clear hX6
        refine wtk 0 ?_ ?_ ?_
        rotate_left
        · intro w hSw; (try dsimp only at hSw); go_simp; (try with_reducible rfl)
        (try simp only [Act.put, pt8])
        refine wtk 1 ?_ ?_ ?_
        rotate_left
        · intro w hSw; (try dsimp only at hSw); go_simp; (try with_reducible rfl)
        (try simp only [Act.put, pt8])
        refine wtk 2 ?_ ?_ ?_
        rotate_left
        · intro w hSw; (try dsimp only at hSw); go_simp; (try with_reducible rfl)
        (try simp only [Act.put, pt8])
        refine wtk 3 ?_ ?_ ?_
        rotate_left
        · intro w hSw; (try dsimp only at hSw); go_simp; (try with_reducible rfl)
        (try simp only [Act.put, pt8])
        refine wtk 4 ?_ ?_ ?_
        rotate_left
        · intro w hSw; (try dsimp only at hSw); go_simp; (try with_reducible rfl)
        (try simp only [Act.put, pt8])
        refine wtk 5 ?_ ?_ ?_
        rotate_left
        · intro w hSw; (try dsimp only at hSw); go_simp; (try with_reducible rfl)
        (try simp only [Act.put, pt8])
        refine wtk 6 ?_ ?_ ?_
        rotate_left
        · intro w hSw; (try dsimp only at hSw); go_simp; (try with_reducible rfl)
        (try simp only [Act.put, pt8])
        refine wtk 7 ?_ ?_ ?_
        rotate_left
        · intro w hSw; (try dsimp only at hSw); go_simp; (try with_reducible rfl)
        (try simp only [Act.put, pt8])
        refine wtk 8 ?_ ?_ ?_
        rotate_left
        · intro w hSw; (try dsimp only at hSw); go_simp; (try with_reducible rfl)
        (try simp only [Act.put, pt8])
        refine wtk 9 ?_ ?_ ?_
        rotate_left
        · intro w hSw; (try dsimp only at hSw); go_simp; (try with_reducible rfl)
        (try simp only [Act.put, pt8])
        refine wpAnyH_ready (rs := [10]) (by kernel_rfl) (by simp) ?_
        refine AllReadyH.cons rfl (fun K hK => ?_) AllReadyH.nil
        obtain ⟨q0, q1, q2, -⟩ := hHeld
        have v6 := (HBR.out.below HB6.out HBR.out.lt).frozen j
        have e6 := kc HB6.out HCR.out
        go_simp
        refine hK.out _ _ ⟨st_ne HN3.out q0, st_ne HN1.out q1, st_ne HN2.out q2, trivial⟩ (fun hHeld => ?_)
        clear q0 q1 q2 v6 e6
        clear hK K
        (try simp only [Act.put, pt8])
        refine wpAnyH_done (by kernel_rfl) ?_ _
        clear hHeld o1 p1 t1
        obtain ⟨X7, hX7⟩ : ∃ W, W = X6.setCell ⟨gv, j, none⟩ (.int .i64 n9) := ⟨_, rfl⟩
        have HO7 := Lib.hid (show OwnSt X2.heap.size X7 (.slice Mn s.mem.length mn) (.slice (some ⟨gt, 0, none⟩) s.ths.length vn) ⟨s.mem, s.ths.set k ⟨xa + 1, xr.set j n9, xe, xb⟩⟩ (ps2.set k ⟨⟨xa + 1, (xr.set j (nth s.mem lc)).set j n9, xe, xb⟩, .slice (some ⟨gv, 0, none⟩) (xr.set j (nth s.mem lc)).length cr, vb2⟩) from by
          rw [hX7]
          have := own_setR (j := j) (z := n9) (HO5.out.below HB6.out) HPK'.out
          exact this.cast (by rw [List.set_set, List.set_set]))
        have HN7 := Lib.hid (show BoxC X7 gn 39 #[.slice Mn s.mem.length mn, .slice (some ⟨gt, 0, none⟩) s.ths.length vn] from by rw [hX7]; exact (HN5.out.below HB6.out HN5.out.lt).other HN3.out _ _)
        have HRR := Lib.hid (show BoxC X7 gr 39 #[.slice none 0 0, .slice none 0 0] from by rw [hX7]; exact (HRR5.out.below HB6.out HRR5.out.lt).other ((HRR5.out.below HB6.out HRR5.out.lt).unlike (HBR.out.below HB6.out HBR.out.lt) (by decide)) _ _)
        have HB7 := Lib.hid (show Below w.heap.size w X7 from by rw [hX7]; exact (chain HBX.out (chain HB5.out HB6.out)).setCell (p := ⟨gv, j, none⟩) (Nat.le_trans HB3.out.size (Nat.le_trans HL3.out.size (Nat.le_trans HL2.out.size HGV.out))) _)
        have HF4 := Lib.hid (show tsS ⟨2, (j : Int), lc, nn, tn⟩ s k ⟨xa, xr, xe, xb⟩ = ⟨s.mem, s.ths.set k ⟨xa + 1, xr.set j n9, xe, xb⟩⟩ from by rw [HF3.out, HVV.out.2]; simp)
        rw [← hX7]
        clear hX7
        have z0 := HN7.out.cell 0 _ rfl
        have z1 := HN7.out.cell 1 _ rfl
        have r0 := HRR.out.cell 0 _ rfl
        have r1 := HRR.out.cell 1 _ rfl
        have f0 := HRR.out.frozen 0
        have f1 := HRR.out.frozen 1
        obtain ⟨W9, hW9⟩ : ∃ W, W = (X7.setCell ⟨gr, 0, none⟩ (.slice Mn s.mem.length mn)).setCell ⟨gr, 1, none⟩ (.slice (some ⟨gt, 0, none⟩) s.ths.length vn) := ⟨_, rfl⟩
        have HR9 := Lib.hid (show BoxC W9 gr 39 #[(.slice Mn s.mem.length mn), (.slice (some ⟨gt, 0, none⟩) s.ths.length vn)] from by rw [hW9]; exact (HRR.out.set 0 _).set 1 _)
        have HO9 := Lib.hid (show OwnSt W3.heap.size W9 (.slice Mn s.mem.length mn) (.slice (some ⟨gt, 0, none⟩) s.ths.length vn) (tsS ⟨2, (j : Int), lc, nn, tn⟩ s k ⟨xa, xr, xe, xb⟩) (ps2.set k ⟨⟨xa + 1, (xr.set j (nth s.mem lc)).set j n9, xe, xb⟩, .slice (some ⟨gv, 0, none⟩) (xr.set j (nth s.mem lc)).length cr, vb2⟩) from by
          rw [hW9]
          exact (((HO7.out.base (Nat.le_trans HL3.out.size HL2.out.size)).cast HF4.out.symm).box HRR.out (by decide) (by decide) (by decide) 0 _).box (HRR.out.set 0 _) (by decide) (by decide) (by decide) 1 _)
        have HB9 := Lib.hid (show Below w.heap.size w W9 from by rw [hW9]; exact (HB7.out.setCell (p := ⟨gr, 0, none⟩) HGR.out _).setCell (p := ⟨gr, 1, none⟩) HGR.out _)
        have HW9 := Lib.hid hW9
        clear hW9
        go_wp2_with fail
        rw [← HW9.out]
        clear r0 r1 f0 f1
        have r0 := HR9.out.cell 0 _ rfl
        have r1 := HR9.out.cell 1 _ rfl
        have hz := HCO.out
        refine bodyPost_ret (v := .tuple #[.agg #[(.slice Mn s.mem.length mn), (.slice (some ⟨gt, 0, none⟩) s.ths.length vn)], .bool true]) (by simp [results, Tryz.results30, go_sem, r0, r1, hz]) rfl ⟨_, _, _, by rw [HF2.out]; rfl, (by rw [HF2.out]; exact HO9.out.base HB3.out.size), HB9.out⟩
      have e2 : ¬ ((op == 2) = true) := by simpa using h2
      by_cases h3 : op = 3
      · subst h3
        have HLO := Lib.hid (HPX.out.loc (by rfl))
        obtain ⟨l, rfl⟩ : ∃ l : Nat, lc = l := ⟨lc.toNat, by have h := HLO.out.1; dsimp only at h; omega⟩
        have HT := Lib.hid (show stT ⟨3, rg, (l : Int), nn, tn⟩ s.mem ⟨xa, xr, xe, xb⟩ = ⟨xa + 1, xr, xe, xb⟩ from by simp [stT, stR, stE, jumps])
        have HPR := Lib.hid (HPX.out.reg (by rfl))
        obtain ⟨r, rfl⟩ : ∃ r : Nat, rg = r := ⟨rg.toNat, by have := HPR.out.1; dsimp only at this; omega⟩
        have hr4 : r < xr.length := by have h := HPR.out.2; have h' := HXR.out; dsimp only at h h'; omega
        obtain ⟨z, hz⟩ : ∃ z, z = xr[r] := ⟨_, rfl⟩
        have HZE := Lib.hid (show nth xr (r : Int) = z from by rw [hz]; unfold nth; simp [hr4])
        have HRG0 := Lib.hid (show ∃ br fr c, vr = .slice (some ⟨br, fr, none⟩) xr.length c ∧ br < B ∧ w.cell? ⟨br, fr + r, none⟩ = some (.int .i64 z) from by
          obtain ⟨Ar, car, e, -, -, -, hr3⟩ := hRg
          obtain ⟨br, fr, e2, hbr, hcr⟩ := nu_at (c := car) hr3 (by omega)
          subst e e2
          exact ⟨br, fr, car, rfl, hbr, by rw [hz]; exact hcr r hr4⟩)
        clear hz
        have HF3 := Lib.hid (show tsS ⟨3, (r : Int), (l : Int), nn, tn⟩ s k ⟨xa, xr, xe, xb⟩ = ⟨s.mem, s.ths.set k ⟨xa + 1, xr, xe, xb ++ [⟨(l : Int), z⟩]⟩⟩ from by simp [tsS, HZE.out])
        have HQ1' := HQ1
        have i0 := HQ1.out.cell 0 _ rfl
        have n0 := HN.out.cell 0 _ rfl
        have nf := HN.out.frozen 0
        go_upto_region 23 with fail
        obtain ⟨X5, hX5⟩ : ∃ W, W = X4.setCell ⟨gn, 0, none⟩ (.slice Am s.mem.length cm) := ⟨_, rfl⟩
        have HN5 := Lib.hid (show BoxC X5 gn 39 #[.slice Am s.mem.length cm, .slice Vn s.ths.length vn] from by rw [hX5]; exact HN.out.set 0 _)
        have HMO := Lib.hid (show OwnI W3.heap.size X4 (.slice Am s.mem.length cm) s.mem from own_below HOS.out.mem (chain HL2.out HL4.out))
        have HMX := Lib.hid (show OwnI W3.heap.size X2 (.slice Am s.mem.length cm) s.mem from own_below HOS.out.mem HL2.out)
        have HO5 := Lib.hid (show OwnSt W3.heap.size X5 (.slice Am s.mem.length cm) (.slice Vn s.ths.length vn) ⟨s.mem, s.ths.set k (stT ⟨3, (r : Int), (l : Int), nn, tn⟩ s.mem ⟨xa, xr, xe, xb⟩)⟩ ps2 from by
          rw [hX5]
          exact ((HO4.out.base (Nat.le_trans HL3.out.size HL2.out.size)).memRow HMO.out (fun p hp => ap_new HMX.out (HO4.out.each p hp).1 (Nat.le_refl _))).box HN.out (by decide) (by decide) (by decide) 0 _)
        have HGNE := Lib.hid (show gn ≠ gr from by have h1 := HR.out.lt; have h2 := HGN.out; have h3 := HL3.out.size; have h4 := HL2.out.size; omega)
        have HQ95 := Lib.hid (show BoxC X5 g9 75 _ from by rw [hX5]; exact HQ9.out.other (HQ9.out.unlike HN.out (by decide)) _ _)
        have HRR5 := Lib.hid (show BoxC X5 gr 39 #[.slice none 0 0, .slice none 0 0] from by rw [hX5]; exact HRR.out.other (Ne.symm HGNE.out) _ _)
        have HGW := Lib.hid (show W3.heap.size ≤ gn from Nat.le_trans HL3.out.size (Nat.le_trans HL2.out.size HGN.out))
        have HB35 := Lib.hid (show Below W3.heap.size W3 X5 from by rw [hX5]; exact (chain HL3.out (chain HL2.out HL4.out)).setCell (p := ⟨gn, 0, none⟩) HGW.out _)
        have HB5 := Lib.hid (show Below w.heap.size w X5 from by rw [hX5]; exact HBX.out.setCell (p := ⟨gn, 0, none⟩) (Nat.le_trans HB3.out.size HGW.out) _)
        rw [← hX5]
        clear hX5 i0 n0 nf p0
        obtain ⟨vr2, vb2, hpk⟩ := HO5.out.pk (k := k) (by simpa using hks)
        simp only [List.getElem_set_self] at hpk
        obtain ⟨hkp, hpe⟩ := List.getElem?_eq_some_iff.1 hpk
        obtain ⟨gt, cv', cur, hev, hgt, hbv, t0, t1, t2, t3⟩ := HO5.out.row hkp
        rw [List.length_set] at hev
        injection hev with hev1 hev3 hev2
        clear hev3
        subst hev1 hev2
        rw [hpe] at t1 t3
        have HPK' := Lib.hid hpk
        have HOE := Lib.hid (HO5.out.each _ (List.getElem_mem hkp))
        rw [hpe] at HOE
        have HBV := Lib.hid hbv
        have HGT := Lib.hid hgt
        clear hpk hbv hgt hpe t0 t2
        dsimp only at HOE
        rw [HT.out] at HOE HPK'
        rw [HT.out] at HO5
        have o1 := HN5.out.cell 1 _ rfl
        have y1 := (HY.out.below HB35.out HY.out.lt).cell 1 _ rfl
        have b3 := ((HB5.out.mono hBB).cell (p := ⟨b1, f1 + k * 4 + 3, none⟩) hb1).trans HC3.out
        have p2 := HQ95.out.cell 2 _ rfl
        have p1 := HQ95.out.cell 1 _ rfl
        obtain ⟨br, fr, car, hvr, hbr, hcr⟩ := HRG0.out
        have bb2 := ((HB5.out.mono hBB).cell (p := ⟨b1, f1 + k * 4 + 1, none⟩) hb1).trans b2
        rw [hvr] at bb2
        have rr := ((HB5.out.mono hBB).cell (p := ⟨br, fr + r, none⟩) hbr).trans hcr
        clear t1
        have HT3 := Lib.hid t3
        clear t3
        refine wp_region_held_drew (S := (fun w' => w'.cell? ⟨gn, 1, none⟩ = some (.slice (some ⟨gt, 0, none⟩) s.ths.length vn) ∧ w'.cell? ⟨gs, 1, none⟩ = some (.slice (some ⟨b1, f1, none⟩) s.ths.length c1) ∧ w'.cell? ⟨b1, f1 + k * 4 + 3, none⟩ = some (.slice Ab xb.length cb) ∧ w'.cell? ⟨g9, 2, none⟩ = some (.int .i64 (l : Int)) ∧ w'.cell? ⟨g9, 1, none⟩ = some (.int .i64 (r : Int)) ∧ w'.cell? ⟨b1, f1 + k * 4 + 1, none⟩ = some (.slice (some ⟨br, fr, none⟩) xr.length car) ∧ w'.cell? ⟨br, fr + r, none⟩ = some (.int .i64 z) ∧ True)) (by kernel_rfl) ⟨o1, y1, b3, p2, p1, bb2, rr, trivial⟩ (fun hHeld => ?_)
        obtain ⟨X6, hX6⟩ : ∃ W, W = X5.drew := ⟨_, rfl⟩
        have HB6 := Lib.hid (show Below X5.heap.size X5 X6 from by rw [hX6]; exact below_drewN (Below.refl _ _) 1)
        rw [← hX6] at hHeld ⊢
        clear hX6
        refine wtk 0 ?_ ?_ ?_
        rotate_left
        · intro w hSw; (try dsimp only at hSw); go_simp; (try with_reducible rfl)
        (try simp only [Act.put, pt8])
        refine wtk 1 ?_ ?_ ?_
        rotate_left
        · intro w hSw; (try dsimp only at hSw); go_simp; (try with_reducible rfl)
        (try simp only [Act.put, pt8])
        refine wtk 2 ?_ ?_ ?_
        rotate_left
        · intro w hSw; (try dsimp only at hSw); go_simp; (try with_reducible rfl)
        (try simp only [Act.put, pt8])
        refine wtk 3 ?_ ?_ ?_
        rotate_left
        · intro w hSw; (try dsimp only at hSw); go_simp; (try with_reducible rfl)
        (try simp only [Act.put, pt8])
        refine wtk 4 ?_ ?_ ?_
        rotate_left
        · intro w hSw; (try dsimp only at hSw); go_simp; (try with_reducible rfl)
        (try simp only [Act.put, pt8])
        refine wtk 5 ?_ ?_ ?_
        rotate_left
        · intro w hSw; (try dsimp only at hSw); go_simp; (try with_reducible rfl)
        (try simp only [Act.put, pt8])
        refine wtk 6 ?_ ?_ ?_
        rotate_left
        · intro w hSw; (try dsimp only at hSw); go_simp; (try with_reducible rfl)
        (try simp only [Act.put, pt8])
        refine wtk 7 ?_ ?_ ?_
        rotate_left
        · intro w hSw; (try dsimp only at hSw); go_simp; (try with_reducible rfl)
        (try simp only [Act.put, pt8])
        refine wtk 8 ?_ ?_ ?_
        rotate_left
        · intro w hSw; (try dsimp only at hSw); go_simp; (try with_reducible rfl)
        (try simp only [Act.put, pt8])
        refine wtk 9 ?_ ?_ ?_
        rotate_left
        · intro w hSw; (try dsimp only at hSw); go_simp; (try with_reducible rfl)
        (try simp only [Act.put, pt8])
        refine wtk 10 ?_ ?_ ?_
        rotate_left
        · intro w hSw; (try dsimp only at hSw); go_simp; (try with_reducible rfl)
        (try simp only [Act.put, pt8])
        refine wtk 11 ?_ ?_ ?_
        rotate_left
        · intro w hSw; (try dsimp only at hSw); go_simp; (try with_reducible rfl)
        (try simp only [Act.put, pt8])
        refine wtk 12 ?_ ?_ ?_
        rotate_left
        · intro w hSw; (try dsimp only at hSw); go_simp; (try with_reducible rfl)
        (try simp only [Act.put, pt8])
        refine wtk 13 ?_ ?_ ?_
        rotate_left
        · intro w hSw; (try dsimp only at hSw); go_simp; (try with_reducible rfl)
        (try simp only [Act.put, pt8])
        refine wtk 14 ?_ ?_ ?_
        rotate_left
        · intro w hSw; (try dsimp only at hSw); go_simp; (try with_reducible rfl)
        (try simp only [Act.put, pt8])
        refine wtk 15 ?_ ?_ ?_
        rotate_left
        · intro w hSw; (try dsimp only at hSw); go_simp; (try with_reducible rfl)
        (try simp only [Act.put, pt8])
        refine wtk 16 ?_ ?_ ?_
        rotate_left
        · intro w hSw; (try dsimp only at hSw); go_simp; (try with_reducible rfl)
        (try simp only [Act.put, pt8])
        refine wtk 17 ?_ ?_ ?_
        rotate_left
        · intro w hSw; (try dsimp only at hSw); go_simp; (try with_reducible rfl)
        (try simp only [Act.put, pt8])
        refine wtk 18 ?_ ?_ ?_
        rotate_left
        · intro w hSw; (try dsimp only at hSw); go_simp; (try with_reducible rfl)
        (try simp only [Act.put, pt8])
        refine wtk 19 ?_ ?_ ?_
        rotate_left
        · intro w hSw; (try dsimp only at hSw); go_simp; (try with_reducible rfl)
        (try simp only [Act.put, pt8])
        refine wtk 20 ?_ ?_ ?_
        rotate_left
        · intro w hSw; (try dsimp only at hSw); go_simp; (try with_reducible rfl)
        (try simp only [Act.put, pt8])
        refine wtk 21 ?_ ?_ ?_
        rotate_left
        · intro w hSw; (try dsimp only at hSw); go_simp; (try with_reducible rfl)
        (try simp only [Act.put, pt8])
        refine wpAnyH_ready (rs := [22]) (by kernel_rfl) (by simp) ?_
        refine AllReadyH.cons rfl (fun K hK => ?_) AllReadyH.nil
        obtain ⟨q0, q1, q2, q3, q4, q5, q6, -⟩ := hHeld
        go_simp
        refine (HPU.out X6 ⟨(l : Int), z⟩ (chain HB5.out HB6.out)).mono ?_
        rintro e X7 ⟨vu, rfl, hou, hb⟩
        obtain ⟨Bn, bn, rfl⟩ := own_slice (n := xb.length + 1) (show X7.ownsRow _ _ 2 vu (xb.length + 1) _ from by have e := hou; unfold OwnW at e; rw [List.length_append] at e; exact e)
        have HOU := Lib.hid (show OwnW X5.heap.size X7 _ _ from own_base hou HB6.out.size)
        have HB7 := Lib.hid (show Below X5.heap.size X5 X7 from chain HB6.out hb)
        refine hK.out _ _ ⟨kc hb q0, kc hb q1, kc hb q2, kc hb q3, kc hb q4, kc hb q5, kc hb q6, trivial⟩ (fun hHeld => ?_)
        clear q0 q1 q2 q3 q4 q5 q6
        clear hK K
        (try simp only [Act.put, pt8])
        clear hb hou
        have HBV7 := Lib.hid (HBV.out.below HB7.out HBV.out.lt)
        have v7 := HBV7.out.frozen (k * 4 + 3)
        have e7 := kc HB7.out HT3.out
        have HNa := Lib.hid ((HN5.out.below HB7.out HN5.out.lt).unlike HBV7.out (by decide))
        have HNb := Lib.hid (show gs ≠ gt from by have h1 := HY.out.lt; have h2 := HGT.out; omega)
        have HNc := Lib.hid (show b1 ≠ gt from by have h1 := hb1; have h2 := HGT.out; have h3 := HB3.out.size; omega)
        have HNd := Lib.hid ((HQ95.out.below HB7.out HQ95.out.lt).unlike HBV7.out (by decide))
        have HNe := Lib.hid (show br ≠ gt from by have h2 := HGT.out; have h3 := HB3.out.size; omega)
        refine wtk 23 ?_ ?_ ?_
        rotate_left
        · intro w hSw; (try dsimp only at hSw); go_simp; (try with_reducible rfl)
        (try simp only [Act.put, pt8])
        refine wtk 24 ?_ ?_ ?_
        rotate_left
        · intro w hSw; (try dsimp only at hSw); go_simp; (try with_reducible rfl)
        (try simp only [Act.put, pt8])
        refine wpAnyH_ready (rs := [25]) (by kernel_rfl) (by simp) ?_
        refine AllReadyH.cons rfl (fun K hK => ?_) AllReadyH.nil
        obtain ⟨q0, q1, q2, q3, q4, q5, q6, -⟩ := hHeld
        go_simp
        refine hK.out _ _ ⟨st_ne HNa.out q0, st_ne HNb.out q1, st_ne HNc.out q2, st_ne HNd.out q3, st_ne HNd.out q4, st_ne HNc.out q5, st_ne HNe.out q6, trivial⟩ (fun hHeld => ?_)
        clear q0 q1 q2 q3 q4 q5 q6 v7 e7
        clear hK K
        (try simp only [Act.put, pt8])
        refine wpAnyH_done (by kernel_rfl) ?_ _
        clear hHeld o1 y1 b3 p2 p1 bb2 rr
        obtain ⟨X8, hX8⟩ : ∃ W, W = X7.setCell ⟨gt, k * 4 + 3, none⟩ (.slice Bn (xb.length + 1) bn) := ⟨_, rfl⟩
        have HO8 := Lib.hid (show OwnSt W3.heap.size X8 (.slice Am s.mem.length cm) (.slice (some ⟨gt, 0, none⟩) s.ths.length vn) ⟨s.mem, s.ths.set k ⟨xa + 1, xr, xe, xb ++ [⟨(l : Int), z⟩]⟩⟩ (ps2.set k ⟨⟨xa + 1, xr, xe, xb ++ [⟨(l : Int), z⟩]⟩, vr2, .slice Bn (xb.length + 1) bn⟩) from by
          rw [hX8]
          have := (HO5.out.below HB7.out).setVB' HPK'.out (own_base HOU.out HB35.out.size)
          exact this.cast (by rw [List.set_set]))
        have HN8 := Lib.hid (show BoxC X8 gn 39 #[.slice Am s.mem.length cm, .slice (some ⟨gt, 0, none⟩) s.ths.length vn] from by rw [hX8]; exact (HN5.out.below HB7.out HN5.out.lt).other ((HN5.out.below HB7.out HN5.out.lt).unlike (HBV.out.below HB7.out HBV.out.lt) (by decide)) _ _)
        have HRR := Lib.hid (show BoxC X8 gr 39 #[.slice none 0 0, .slice none 0 0] from by rw [hX8]; exact (HRR5.out.below HB7.out HRR5.out.lt).other ((HRR5.out.below HB7.out HRR5.out.lt).unlike (HBV.out.below HB7.out HBV.out.lt) (by decide)) _ _)
        have HB8 := Lib.hid (show Below w.heap.size w X8 from by rw [hX8]; exact (chain HB5.out HB7.out).setCell (p := ⟨gt, k * 4 + 3, none⟩) (Nat.le_trans HB3.out.size HGT.out) _)
        rw [← hX8]
        clear hX8
        have z0 := HN8.out.cell 0 _ rfl
        have z1 := HN8.out.cell 1 _ rfl
        have r0 := HRR.out.cell 0 _ rfl
        have r1 := HRR.out.cell 1 _ rfl
        have f0 := HRR.out.frozen 0
        have f1 := HRR.out.frozen 1
        obtain ⟨W9, hW9⟩ : ∃ W, W = (X8.setCell ⟨gr, 0, none⟩ (.slice Am s.mem.length cm)).setCell ⟨gr, 1, none⟩ (.slice (some ⟨gt, 0, none⟩) s.ths.length vn) := ⟨_, rfl⟩
        have HR9 := Lib.hid (show BoxC W9 gr 39 #[(.slice Am s.mem.length cm), (.slice (some ⟨gt, 0, none⟩) s.ths.length vn)] from by rw [hW9]; exact (HRR.out.set 0 _).set 1 _)
        have HO9 := Lib.hid (show OwnSt W3.heap.size W9 (.slice Am s.mem.length cm) (.slice (some ⟨gt, 0, none⟩) s.ths.length vn) (tsS ⟨3, (r : Int), (l : Int), nn, tn⟩ s k ⟨xa, xr, xe, xb⟩) (ps2.set k ⟨⟨xa + 1, xr, xe, xb ++ [⟨(l : Int), z⟩]⟩, vr2, .slice Bn (xb.length + 1) bn⟩) from by
          rw [hW9]
          exact ((HO8.out.cast HF3.out.symm).box HRR.out (by decide) (by decide) (by decide) 0 _).box (HRR.out.set 0 _) (by decide) (by decide) (by decide) 1 _)
        have HB9 := Lib.hid (show Below w.heap.size w W9 from by rw [hW9]; exact (HB8.out.setCell (p := ⟨gr, 0, none⟩) HGR.out _).setCell (p := ⟨gr, 1, none⟩) HGR.out _)
        have HW9 := Lib.hid hW9
        clear hW9
        go_wp2_with fail
        rw [← HW9.out]
        clear r0 r1 f0 f1
        have r0 := HR9.out.cell 0 _ rfl
        have r1 := HR9.out.cell 1 _ rfl
        have hz := HCO.out
        refine bodyPost_ret (v := .tuple #[.agg #[(.slice Am s.mem.length cm), (.slice (some ⟨gt, 0, none⟩) s.ths.length vn)], .bool true]) (by simp [results, Tryz.results30, go_sem, r0, r1, hz]) rfl ⟨_, _, _, by rw [HF2.out]; rfl, (by rw [HF2.out]; exact HO9.out.base HB3.out.size), HB9.out⟩
      have e3 : ¬ ((op == 3) = true) := by simpa using h3
      by_cases h4 : op = 4
      · subst h4
        have HLO := Lib.hid (HPX.out.loc (by rfl))
        obtain ⟨l, rfl⟩ : ∃ l : Nat, lc = l := ⟨lc.toNat, by have h := HLO.out.1; dsimp only at h; omega⟩
        have HT := Lib.hid (show stT ⟨4, rg, (l : Int), nn, tn⟩ s.mem ⟨xa, xr, xe, xb⟩ = ⟨xa + 1, xr, xe, xb⟩ from by simp [stT, stR, stE, jumps])
        obtain ⟨z, hz⟩ : ∃ z, z = nn := ⟨_, rfl⟩
        have HZE := Lib.hid hz.symm
        clear hz
        have HF3 := Lib.hid (show tsS ⟨4, rg, (l : Int), nn, tn⟩ s k ⟨xa, xr, xe, xb⟩ = ⟨s.mem, s.ths.set k ⟨xa + 1, xr, xe, xb ++ [⟨(l : Int), z⟩]⟩⟩ from by simp [tsS, HZE.out])
        have HQ1' := HQ1
        have i0 := HQ1.out.cell 0 _ rfl
        have n0 := HN.out.cell 0 _ rfl
        have nf := HN.out.frozen 0
        go_upto_region 26 with fail
        obtain ⟨X5, hX5⟩ : ∃ W, W = X4.setCell ⟨gn, 0, none⟩ (.slice Am s.mem.length cm) := ⟨_, rfl⟩
        have HN5 := Lib.hid (show BoxC X5 gn 39 #[.slice Am s.mem.length cm, .slice Vn s.ths.length vn] from by rw [hX5]; exact HN.out.set 0 _)
        have HMO := Lib.hid (show OwnI W3.heap.size X4 (.slice Am s.mem.length cm) s.mem from own_below HOS.out.mem (chain HL2.out HL4.out))
        have HMX := Lib.hid (show OwnI W3.heap.size X2 (.slice Am s.mem.length cm) s.mem from own_below HOS.out.mem HL2.out)
        have HO5 := Lib.hid (show OwnSt W3.heap.size X5 (.slice Am s.mem.length cm) (.slice Vn s.ths.length vn) ⟨s.mem, s.ths.set k (stT ⟨4, rg, (l : Int), nn, tn⟩ s.mem ⟨xa, xr, xe, xb⟩)⟩ ps2 from by
          rw [hX5]
          exact ((HO4.out.base (Nat.le_trans HL3.out.size HL2.out.size)).memRow HMO.out (fun p hp => ap_new HMX.out (HO4.out.each p hp).1 (Nat.le_refl _))).box HN.out (by decide) (by decide) (by decide) 0 _)
        have HGNE := Lib.hid (show gn ≠ gr from by have h1 := HR.out.lt; have h2 := HGN.out; have h3 := HL3.out.size; have h4 := HL2.out.size; omega)
        have HQ95 := Lib.hid (show BoxC X5 g9 75 _ from by rw [hX5]; exact HQ9.out.other (HQ9.out.unlike HN.out (by decide)) _ _)
        have HRR5 := Lib.hid (show BoxC X5 gr 39 #[.slice none 0 0, .slice none 0 0] from by rw [hX5]; exact HRR.out.other (Ne.symm HGNE.out) _ _)
        have HGW := Lib.hid (show W3.heap.size ≤ gn from Nat.le_trans HL3.out.size (Nat.le_trans HL2.out.size HGN.out))
        have HB35 := Lib.hid (show Below W3.heap.size W3 X5 from by rw [hX5]; exact (chain HL3.out (chain HL2.out HL4.out)).setCell (p := ⟨gn, 0, none⟩) HGW.out _)
        have HB5 := Lib.hid (show Below w.heap.size w X5 from by rw [hX5]; exact HBX.out.setCell (p := ⟨gn, 0, none⟩) (Nat.le_trans HB3.out.size HGW.out) _)
        rw [← hX5]
        clear hX5 i0 n0 nf p0
        obtain ⟨vr2, vb2, hpk⟩ := HO5.out.pk (k := k) (by simpa using hks)
        simp only [List.getElem_set_self] at hpk
        obtain ⟨hkp, hpe⟩ := List.getElem?_eq_some_iff.1 hpk
        obtain ⟨gt, cv', cur, hev, hgt, hbv, t0, t1, t2, t3⟩ := HO5.out.row hkp
        rw [List.length_set] at hev
        injection hev with hev1 hev3 hev2
        clear hev3
        subst hev1 hev2
        rw [hpe] at t1 t3
        have HPK' := Lib.hid hpk
        have HOE := Lib.hid (HO5.out.each _ (List.getElem_mem hkp))
        rw [hpe] at HOE
        have HBV := Lib.hid hbv
        have HGT := Lib.hid hgt
        clear hpk hbv hgt hpe t0 t2
        dsimp only at HOE
        rw [HT.out] at HOE HPK'
        rw [HT.out] at HO5
        have o1 := HN5.out.cell 1 _ rfl
        have y1 := (HY.out.below HB35.out HY.out.lt).cell 1 _ rfl
        have b3 := ((HB5.out.mono hBB).cell (p := ⟨b1, f1 + k * 4 + 3, none⟩) hb1).trans HC3.out
        have p2 := HQ95.out.cell 2 _ rfl
        have p3 := HQ95.out.cell 3 _ rfl
        skip
        clear t1
        have HT3 := Lib.hid t3
        clear t3
        refine wp_region_held_drew (S := (fun w' => w'.cell? ⟨gn, 1, none⟩ = some (.slice (some ⟨gt, 0, none⟩) s.ths.length vn) ∧ w'.cell? ⟨gs, 1, none⟩ = some (.slice (some ⟨b1, f1, none⟩) s.ths.length c1) ∧ w'.cell? ⟨b1, f1 + k * 4 + 3, none⟩ = some (.slice Ab xb.length cb) ∧ w'.cell? ⟨g9, 2, none⟩ = some (.int .i64 (l : Int)) ∧ w'.cell? ⟨g9, 3, none⟩ = some (.int .i64 nn) ∧ True)) (by kernel_rfl) ⟨o1, y1, b3, p2, p3, trivial⟩ (fun hHeld => ?_)
        obtain ⟨X6, hX6⟩ : ∃ W, W = X5.drew := ⟨_, rfl⟩
        have HB6 := Lib.hid (show Below X5.heap.size X5 X6 from by rw [hX6]; exact below_drewN (Below.refl _ _) 1)
        rw [← hX6] at hHeld ⊢
        clear hX6
        refine wtk 0 ?_ ?_ ?_
        rotate_left
        · intro w hSw; (try dsimp only at hSw); go_simp; (try with_reducible rfl)
        (try simp only [Act.put, pt8])
        refine wtk 1 ?_ ?_ ?_
        rotate_left
        · intro w hSw; (try dsimp only at hSw); go_simp; (try with_reducible rfl)
        (try simp only [Act.put, pt8])
        refine wtk 2 ?_ ?_ ?_
        rotate_left
        · intro w hSw; (try dsimp only at hSw); go_simp; (try with_reducible rfl)
        (try simp only [Act.put, pt8])
        refine wtk 3 ?_ ?_ ?_
        rotate_left
        · intro w hSw; (try dsimp only at hSw); go_simp; (try with_reducible rfl)
        (try simp only [Act.put, pt8])
        refine wtk 4 ?_ ?_ ?_
        rotate_left
        · intro w hSw; (try dsimp only at hSw); go_simp; (try with_reducible rfl)
        (try simp only [Act.put, pt8])
        refine wtk 5 ?_ ?_ ?_
        rotate_left
        · intro w hSw; (try dsimp only at hSw); go_simp; (try with_reducible rfl)
        (try simp only [Act.put, pt8])
        refine wtk 6 ?_ ?_ ?_
        rotate_left
        · intro w hSw; (try dsimp only at hSw); go_simp; (try with_reducible rfl)
        (try simp only [Act.put, pt8])
        refine wtk 7 ?_ ?_ ?_
        rotate_left
        · intro w hSw; (try dsimp only at hSw); go_simp; (try with_reducible rfl)
        (try simp only [Act.put, pt8])
        refine wtk 8 ?_ ?_ ?_
        rotate_left
        · intro w hSw; (try dsimp only at hSw); go_simp; (try with_reducible rfl)
        (try simp only [Act.put, pt8])
        refine wtk 9 ?_ ?_ ?_
        rotate_left
        · intro w hSw; (try dsimp only at hSw); go_simp; (try with_reducible rfl)
        (try simp only [Act.put, pt8])
        refine wtk 10 ?_ ?_ ?_
        rotate_left
        · intro w hSw; (try dsimp only at hSw); go_simp; (try with_reducible rfl)
        (try simp only [Act.put, pt8])
        refine wtk 11 ?_ ?_ ?_
        rotate_left
        · intro w hSw; (try dsimp only at hSw); go_simp; (try with_reducible rfl)
        (try simp only [Act.put, pt8])
        refine wtk 12 ?_ ?_ ?_
        rotate_left
        · intro w hSw; (try dsimp only at hSw); go_simp; (try with_reducible rfl)
        (try simp only [Act.put, pt8])
        refine wtk 13 ?_ ?_ ?_
        rotate_left
        · intro w hSw; (try dsimp only at hSw); go_simp; (try with_reducible rfl)
        (try simp only [Act.put, pt8])
        refine wpAnyH_ready (rs := [14]) (by kernel_rfl) (by simp) ?_
        refine AllReadyH.cons rfl (fun K hK => ?_) AllReadyH.nil
        obtain ⟨q0, q1, q2, q3, q4, -⟩ := hHeld
        go_simp
        rw [HZE.out]
        refine (HPU.out X6 ⟨(l : Int), z⟩ (chain HB5.out HB6.out)).mono ?_
        rintro e X7 ⟨vu, rfl, hou, hb⟩
        obtain ⟨Bn, bn, rfl⟩ := own_slice (n := xb.length + 1) (show X7.ownsRow _ _ 2 vu (xb.length + 1) _ from by have e := hou; unfold OwnW at e; rw [List.length_append] at e; exact e)
        have HOU := Lib.hid (show OwnW X5.heap.size X7 _ _ from own_base hou HB6.out.size)
        have HB7 := Lib.hid (show Below X5.heap.size X5 X7 from chain HB6.out hb)
        refine hK.out _ _ ⟨kc hb q0, kc hb q1, kc hb q2, kc hb q3, kc hb q4, trivial⟩ (fun hHeld => ?_)
        clear q0 q1 q2 q3 q4
        clear hK K
        (try simp only [Act.put, pt8])
        clear hb hou
        have HBV7 := Lib.hid (HBV.out.below HB7.out HBV.out.lt)
        have v7 := HBV7.out.frozen (k * 4 + 3)
        have e7 := kc HB7.out HT3.out
        have HNa := Lib.hid ((HN5.out.below HB7.out HN5.out.lt).unlike HBV7.out (by decide))
        have HNb := Lib.hid (show gs ≠ gt from by have h1 := HY.out.lt; have h2 := HGT.out; omega)
        have HNc := Lib.hid (show b1 ≠ gt from by have h1 := hb1; have h2 := HGT.out; have h3 := HB3.out.size; omega)
        have HNd := Lib.hid ((HQ95.out.below HB7.out HQ95.out.lt).unlike HBV7.out (by decide))
        refine wtk 15 ?_ ?_ ?_
        rotate_left
        · intro w hSw; (try dsimp only at hSw); go_simp; (try with_reducible rfl)
        (try simp only [Act.put, pt8])
        refine wtk 16 ?_ ?_ ?_
        rotate_left
        · intro w hSw; (try dsimp only at hSw); go_simp; (try with_reducible rfl)
        (try simp only [Act.put, pt8])
        refine wpAnyH_ready (rs := [17]) (by kernel_rfl) (by simp) ?_
        refine AllReadyH.cons rfl (fun K hK => ?_) AllReadyH.nil
        obtain ⟨q0, q1, q2, q3, q4, -⟩ := hHeld
        go_simp
        refine hK.out _ _ ⟨st_ne HNa.out q0, st_ne HNb.out q1, st_ne HNc.out q2, st_ne HNd.out q3, st_ne HNd.out q4, trivial⟩ (fun hHeld => ?_)
        clear q0 q1 q2 q3 q4 v7 e7
        clear hK K
        (try simp only [Act.put, pt8])
        refine wpAnyH_done (by kernel_rfl) ?_ _
        clear hHeld o1 y1 b3 p2 p3
        obtain ⟨X8, hX8⟩ : ∃ W, W = X7.setCell ⟨gt, k * 4 + 3, none⟩ (.slice Bn (xb.length + 1) bn) := ⟨_, rfl⟩
        have HO8 := Lib.hid (show OwnSt W3.heap.size X8 (.slice Am s.mem.length cm) (.slice (some ⟨gt, 0, none⟩) s.ths.length vn) ⟨s.mem, s.ths.set k ⟨xa + 1, xr, xe, xb ++ [⟨(l : Int), z⟩]⟩⟩ (ps2.set k ⟨⟨xa + 1, xr, xe, xb ++ [⟨(l : Int), z⟩]⟩, vr2, .slice Bn (xb.length + 1) bn⟩) from by
          rw [hX8]
          have := (HO5.out.below HB7.out).setVB' HPK'.out (own_base HOU.out HB35.out.size)
          exact this.cast (by rw [List.set_set]))
        have HN8 := Lib.hid (show BoxC X8 gn 39 #[.slice Am s.mem.length cm, .slice (some ⟨gt, 0, none⟩) s.ths.length vn] from by rw [hX8]; exact (HN5.out.below HB7.out HN5.out.lt).other ((HN5.out.below HB7.out HN5.out.lt).unlike (HBV.out.below HB7.out HBV.out.lt) (by decide)) _ _)
        have HRR := Lib.hid (show BoxC X8 gr 39 #[.slice none 0 0, .slice none 0 0] from by rw [hX8]; exact (HRR5.out.below HB7.out HRR5.out.lt).other ((HRR5.out.below HB7.out HRR5.out.lt).unlike (HBV.out.below HB7.out HBV.out.lt) (by decide)) _ _)
        have HB8 := Lib.hid (show Below w.heap.size w X8 from by rw [hX8]; exact (chain HB5.out HB7.out).setCell (p := ⟨gt, k * 4 + 3, none⟩) (Nat.le_trans HB3.out.size HGT.out) _)
        rw [← hX8]
        clear hX8
        have z0 := HN8.out.cell 0 _ rfl
        have z1 := HN8.out.cell 1 _ rfl
        have r0 := HRR.out.cell 0 _ rfl
        have r1 := HRR.out.cell 1 _ rfl
        have f0 := HRR.out.frozen 0
        have f1 := HRR.out.frozen 1
        obtain ⟨W9, hW9⟩ : ∃ W, W = (X8.setCell ⟨gr, 0, none⟩ (.slice Am s.mem.length cm)).setCell ⟨gr, 1, none⟩ (.slice (some ⟨gt, 0, none⟩) s.ths.length vn) := ⟨_, rfl⟩
        have HR9 := Lib.hid (show BoxC W9 gr 39 #[(.slice Am s.mem.length cm), (.slice (some ⟨gt, 0, none⟩) s.ths.length vn)] from by rw [hW9]; exact (HRR.out.set 0 _).set 1 _)
        have HO9 := Lib.hid (show OwnSt W3.heap.size W9 (.slice Am s.mem.length cm) (.slice (some ⟨gt, 0, none⟩) s.ths.length vn) (tsS ⟨4, rg, (l : Int), nn, tn⟩ s k ⟨xa, xr, xe, xb⟩) (ps2.set k ⟨⟨xa + 1, xr, xe, xb ++ [⟨(l : Int), z⟩]⟩, vr2, .slice Bn (xb.length + 1) bn⟩) from by
          rw [hW9]
          exact ((HO8.out.cast HF3.out.symm).box HRR.out (by decide) (by decide) (by decide) 0 _).box (HRR.out.set 0 _) (by decide) (by decide) (by decide) 1 _)
        have HB9 := Lib.hid (show Below w.heap.size w W9 from by rw [hW9]; exact (HB8.out.setCell (p := ⟨gr, 0, none⟩) HGR.out _).setCell (p := ⟨gr, 1, none⟩) HGR.out _)
        have HW9 := Lib.hid hW9
        clear hW9
        go_wp2_with fail
        rw [← HW9.out]
        clear r0 r1 f0 f1
        have r0 := HR9.out.cell 0 _ rfl
        have r1 := HR9.out.cell 1 _ rfl
        have hz := HCO.out
        refine bodyPost_ret (v := .tuple #[.agg #[(.slice Am s.mem.length cm), (.slice (some ⟨gt, 0, none⟩) s.ths.length vn)], .bool true]) (by simp [results, Tryz.results30, go_sem, r0, r1, hz]) rfl ⟨_, _, _, by rw [HF2.out]; rfl, (by rw [HF2.out]; exact HO9.out.base HB3.out.size), HB9.out⟩
      have e4 : ¬ ((op == 4) = true) := by simpa using h4
      have HF3 := Lib.hid (show tsS ⟨op, rg, lc, nn, tn⟩ s k ⟨xa, xr, xe, xb⟩ = ⟨stM ⟨op, rg, lc, nn, tn⟩ s.mem xr, s.ths.set k (stT ⟨op, rg, lc, nn, tn⟩ s.mem ⟨xa, xr, xe, xb⟩)⟩ from by unfold tsS; simp only [h2, h3, h4, if_false])
      clear h2 h3 h4
      go_upto_region 27 with fail
      clear p0 e2 e3 e4
      have z0 := HN.out.cell 0 _ rfl
      have z1 := HN.out.cell 1 _ rfl
      have r0 := HRR.out.cell 0 _ rfl
      have r1 := HRR.out.cell 1 _ rfl
      have f0 := HRR.out.frozen 0
      have f1 := HRR.out.frozen 1
      obtain ⟨W9, hW9⟩ : ∃ W, W = (X4.setCell ⟨gr, 0, none⟩ (.slice Mn s.mem.length mn)).setCell ⟨gr, 1, none⟩ (.slice Vn s.ths.length vn) := ⟨_, rfl⟩
      have HR9 := Lib.hid (show BoxC W9 gr 39 #[(.slice Mn s.mem.length mn), (.slice Vn s.ths.length vn)] from by rw [hW9]; exact (HRR.out.set 0 _).set 1 _)
      have HO9 := Lib.hid (show OwnSt W3.heap.size W9 (.slice Mn s.mem.length mn) (.slice Vn s.ths.length vn) (tsS ⟨op, rg, lc, nn, tn⟩ s k ⟨xa, xr, xe, xb⟩) ps2 from by
        rw [hW9]
        exact (((HO4.out.base (Nat.le_trans HL3.out.size HL2.out.size)).cast HF3.out.symm).box HRR.out (by decide) (by decide) (by decide) 0 _).box (HRR.out.set 0 _) (by decide) (by decide) (by decide) 1 _)
      have HB9 := Lib.hid (show Below w.heap.size w W9 from by rw [hW9]; exact (HBX.out.setCell (p := ⟨gr, 0, none⟩) HGR.out _).setCell (p := ⟨gr, 1, none⟩) HGR.out _)
      have HW9 := Lib.hid hW9
      clear hW9
      go_wp2_with fail
      rw [← HW9.out]
      clear r0 r1 f0 f1
      have r0 := HR9.out.cell 0 _ rfl
      have r1 := HR9.out.cell 1 _ rfl
      have hz := HCO.out
      refine bodyPost_ret (v := .tuple #[.agg #[(.slice Mn s.mem.length mn), (.slice Vn s.ths.length vn)], .bool true]) (by simp [results, Tryz.results30, go_sem, r0, r1, hz]) rfl ⟨_, _, _, by rw [HF2.out]; rfl, (by rw [HF2.out]; exact HO9.out.base HB3.out.size), HB9.out⟩

end Go.Proofs.YtlpjgaeelnlipaaGreat
