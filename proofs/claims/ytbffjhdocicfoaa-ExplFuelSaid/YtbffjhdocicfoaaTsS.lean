/-
  tso.Step.
-/
import Derived.Test.YtbffjhdocicfoaaTsR
import Derived.Deep.RegionHeld3
import Derived.Deep.DeepCutAuto
namespace Go.Proofs.Ytbffjhdocicfoaa
open Go.RowKit
set_option linter.unusedVariables false
set_option linter.unusedSimpArgs false
open CodM (St Pg rightP hReg hLoc)
open BfM (Wr plc)
open ScM

set_option maxHeartbeats 8000000 in
set_option maxRecDepth 100000 in
theorem tstep_any {B : Nat} {v u : Value} {P : Pg} {s : Sta} (t : Int) (d : Bool) (w : World) (hv : PgV B w v P) (hu : StaV B w u s) (hBB : B ≤ w.heap.size) (hp : rightP P = true) (ho : OkSt P s) (hw : WideS s) :
    Calls Try.prog 49 #[v, u, .agg #[.int .i64 t, .bool d]] w (TpRet P s t d w) := by
  have HCAN := Lib.hid (fun W (hW : Below w.heap.size w W) => tcan_any t d W ((hv.below (hW.mono hBB)).more (Nat.le_trans hBB hW.size)) ((hu.below (hW.mono hBB)).more (Nat.le_trans hBB hW.size)) (Nat.le_refl _) ho)
  have HOWN := Lib.hid (fun W (hW : Below w.heap.size w W) => town_any W ((hv.below (hW.mono hBB)).more (Nat.le_trans hBB hW.size)) ((hu.below (hW.mono hBB)).more (Nat.le_trans hBB hW.size)) (Nat.le_refl _) hp ho hw)
  have HDR := Lib.hid (fun W (k : Nat) (xa : Int) (xr : List Int) (xe : Bool) (xb : List Wr) (hks : k < s.ths.length) (hth : s.ths[k] = ⟨xa, xr, xe, xb⟩) (hW : Below w.heap.size w W) => tdrained_any k W ((hv.below (hW.mono hBB)).more (Nat.le_trans hBB hW.size)) ((hu.below (hW.mono hBB)).more (Nat.le_trans hBB hW.size)) (Nat.le_refl _) hp ho hw hks hth)
  have HSP := Lib.hid (fun W (k n : Nat) (op rg lc nn tn : Int) (xr : List Int) (xe : Bool) (xb : List Wr) (hks : k < s.ths.length) (hkt : k < P.ths.length) (hth : s.ths[k] = ⟨(n : Int), xr, xe, xb⟩) (hn : n < P.ths[k].length) (hx : P.ths[k][n] = ⟨op, rg, lc, nn, tn⟩) (hW : Below w.heap.size w W) => tstepped_any k n W ((hv.below (hW.mono hBB)).more (Nat.le_trans hBB hW.size)) ((hu.below (hW.mono hBB)).more (Nat.le_trans hBB hW.size)) (Nat.le_refl _) hp ho hw hks hkt hth hn hx)
  have HTSM := Lib.hid (fun s' (h : tst P s t d = some s') => tst_some ho h)
  have HOK := Lib.hid ho
  clear hp ho hw
  obtain ⟨pi, pt, rfl, hpm⟩ := hv
  obtain ⟨um, ut, rfl, hum⟩ := hu
  obtain ⟨⟨P0, d0, rfl, -⟩, ⟨P1, d1, rfl, l1, l2, l3⟩⟩ := hpm
  have HUM := Lib.hid hum.1
  obtain ⟨⟨A7, c7, rfl, -⟩, ⟨A1, c1, rfl, m1, m2, -, m3⟩⟩ := hum
  have HM3 := Lib.hid m3
  have HL3P := Lib.hid l3
  unfold maxLen at m2 l2
  clear m3 l3
  have HCO := Lib.hid (show Try.prog.cellsOf 62 = 2 from by kernel_rfl)
  obtain ⟨W3, hW3⟩ : ∃ W, W = (((w.alloc (.cells #[.slice P0 P.init.length d0, .slice P1 P.ths.length d1] 25)).alloc (.cells #[.slice A7 s.mem.length c7, .slice A1 s.ths.length c1] 62)).alloc (.cells #[.int .i64 t, .bool d] 76)).alloc (.cells #[.slice none 0 0, .slice none 0 0] 62) := ⟨_, rfl⟩
  obtain ⟨gp, hgp⟩ : ∃ g, g = w.heap.size := ⟨_, rfl⟩
  obtain ⟨gs, hgs⟩ : ∃ g, g = w.heap.size + 1 := ⟨_, rfl⟩
  obtain ⟨gk, hgk⟩ : ∃ g, g = w.heap.size + 1 + 1 := ⟨_, rfl⟩
  obtain ⟨gr, hgr⟩ : ∃ g, g = w.heap.size + 1 + 1 + 1 := ⟨_, rfl⟩
  have HX := Lib.hid (show BoxC W3 gp 25 #[.slice P0 P.init.length d0, .slice P1 P.ths.length d1] from by rw [hW3, hgp]; exact (((BoxC.new w _ _).alloc _).alloc _).alloc _)
  have HY := Lib.hid (show BoxC W3 gs 62 #[.slice A7 s.mem.length c7, .slice A1 s.ths.length c1] from by rw [hW3, hgs]; have := ((BoxC.new (w.alloc (.cells #[.slice P0 P.init.length d0, .slice P1 P.ths.length d1] 25)) 62 #[.slice A7 s.mem.length c7, .slice A1 s.ths.length c1]).alloc (.cells #[.int .i64 t, .bool d] 76)).alloc (.cells #[.slice none 0 0, .slice none 0 0] 62); rw [World.size_alloc] at this; exact this)
  have HK := Lib.hid (show BoxC W3 gk 76 #[.int .i64 t, .bool d] from by rw [hW3, hgk]; have := (BoxC.new ((w.alloc (.cells #[.slice P0 P.init.length d0, .slice P1 P.ths.length d1] 25)).alloc (.cells #[.slice A7 s.mem.length c7, .slice A1 s.ths.length c1] 62)) 76 #[.int .i64 t, .bool d]).alloc (.cells #[.slice none 0 0, .slice none 0 0] 62); rw [World.size_alloc, World.size_alloc] at this; exact this)
  have HR := Lib.hid (show BoxC W3 gr 62 #[.slice none 0 0, .slice none 0 0] from by rw [hW3, hgr]; have := BoxC.new (((w.alloc (.cells #[.slice P0 P.init.length d0, .slice P1 P.ths.length d1] 25)).alloc (.cells #[.slice A7 s.mem.length c7, .slice A1 s.ths.length c1] 62)).alloc (.cells #[.int .i64 t, .bool d] 76)) 62 #[.slice none 0 0, .slice none 0 0]; rw [World.size_alloc, World.size_alloc, World.size_alloc] at this; exact this)
  have HB3 := Lib.hid (show Below w.heap.size w W3 from by rw [hW3]; exact below_al (below_al (below_al (below_al (Below.refl _ _) _) _) _) _)
  have HGR := Lib.hid (show w.heap.size ≤ gr from by omega)
  have HGS := Lib.hid (show gs < W3.heap.size from HY.out.lt)
  have x0 := HX.out.cell 0 _ rfl
  have x1 := HX.out.cell 1 _ rfl
  have y0 := HY.out.cell 0 _ rfl
  have y1 := HY.out.cell 1 _ rfl
  have k0 := HK.out.cell 0 _ rfl
  have k1 := HK.out.cell 1 _ rfl
  go_enter Try.func49, Try.ntmps49
  go_upto_region 1 with fail
  rw [← hW3]
  (try rw [← hgr])
  (try rw [← hgk])
  (try rw [← hgs])
  (try rw [← hgp])
  clear hW3 hgr hgs hgp hgk
  go_wp2_with fail
  refine (HCAN.out _ HB3.out).mono ?_
  rintro e w1 ⟨rfl, hb1⟩
  have HB1 := Lib.hid hb1
  have HBF := Lib.hid (chain HB3.out hb1)
  clear hb1 x0 x1 y0 y1 k0 k1 HCAN
  have x0 := (HX.out.below HB1.out HX.out.lt).cell 0 _ rfl
  have x1 := (HX.out.below HB1.out HX.out.lt).cell 1 _ rfl
  have y0 := (HY.out.below HB1.out HY.out.lt).cell 0 _ rfl
  have y1 := (HY.out.below HB1.out HY.out.lt).cell 1 _ rfl
  have k0 := (HK.out.below HB1.out HK.out.lt).cell 0 _ rfl
  have k1 := (HK.out.below HB1.out HK.out.lt).cell 1 _ rfl
  cases htt : tst P s t d with
  | none =>
    have HFE := Lib.hid htt
    have HIS : (tst P s t d).isSome = false := by rw [htt]; rfl
    clear htt HDR HSP HTSM
    rw [show (none : Option Sta).isSome = false from rfl]
    go_wp2_with fail
    refine (HOWN.out _ HBF.out).mono ?_
    rintro e w2 ⟨vm, vt, ps, rfl, hos, hb2⟩
    obtain ⟨Am, cm, rfl⟩ := own_slice hos.mem
    obtain ⟨Av, cv, rfl⟩ := own_slice hos.ths
    have HOS := Lib.hid hos
    have HB2 := Lib.hid (chain HB1.out hb2)
    have HBF2 := Lib.hid (chain HBF.out hb2)
    clear hos hb2 x0 x1 y0 y1
    have HRR := Lib.hid (HR.out.below HB2.out HR.out.lt)
    clear k0 k1 HIS
    have r0 := HRR.out.cell 0 _ rfl
    have r1 := HRR.out.cell 1 _ rfl
    have f0 := HRR.out.frozen 0
    have f1 := HRR.out.frozen 1
    obtain ⟨W9, hW9⟩ : ∃ W, W = (w2.setCell ⟨gr, 0, none⟩ (.slice Am s.mem.length cm)).setCell ⟨gr, 1, none⟩ (.slice Av s.ths.length cv) := ⟨_, rfl⟩
    have HR9 := Lib.hid (show BoxC W9 gr 62 #[(.slice Am s.mem.length cm), (.slice Av s.ths.length cv)] from by rw [hW9]; exact (HRR.out.set 0 _).set 1 _)
    have HO9 := Lib.hid (show OwnSt W3.heap.size W9 (.slice Am s.mem.length cm) (.slice Av s.ths.length cv) (s) ps from by
      rw [hW9]
      exact ((HOS.out.base HB1.out.size).box HRR.out (by decide) (by decide) (by decide) 0 _).box (HRR.out.set 0 _) (by decide) (by decide) (by decide) 1 _)
    have HB9 := Lib.hid (show Below w.heap.size w W9 from by rw [hW9]; exact (HBF2.out.setCell (p := ⟨gr, 0, none⟩) HGR.out _).setCell (p := ⟨gr, 1, none⟩) HGR.out _)
    have HW9 := Lib.hid hW9
    clear hW9
    go_wp2_with fail
    rw [← HW9.out]
    clear r0 r1 f0 f1
    have r0 := HR9.out.cell 0 _ rfl
    have r1 := HR9.out.cell 1 _ rfl
    have hz := HCO.out
    refine bodyPost_ret (v := .tuple #[.agg #[(.slice Am s.mem.length cm), (.slice Av s.ths.length cv)], .bool false]) (by simp [results, Try.results49, go_sem, r0, r1, hz]) rfl ⟨_, _, _, by rw [HFE.out]; rfl, (by rw [HFE.out]; exact HO9.out.base HB3.out.size), HB9.out⟩
  | some s' =>
    obtain ⟨k, rfl, h1, h2, hcase⟩ := HTSM.out s' htt
    have HFE := Lib.hid htt
    clear htt HTSM
    rw [show (some s').isSome = true from rfl]
    rcases hcase with ⟨rfl, hbe, hse⟩ | ⟨rfl, h3, hst, hse⟩
    · rcases hth : s.ths[k] with ⟨xa, xr, xe, xb⟩
      rw [hth] at hse
      subst hse
      have HL1 := Lib.hid (show (drn s k ⟨xa, xr, xe, xb⟩).mem.length = s.mem.length ∧ (drn s k ⟨xa, xr, xe, xb⟩).ths.length = s.ths.length from ⟨drM_len _ _, by show (List.set _ _ _).length = _; rw [List.length_set]⟩)
      have HDK := Lib.hid (fun W hW => HDR.out W k xa xr xe xb h1 hth hW)
      clear hbe hth HDR HSP HOWN
      go_wp2_with fail
      refine (HDK.out _ HBF.out).mono ?_
      rintro e w2 ⟨vm, vt, ps, rfl, hos, hb2⟩
      obtain ⟨Am, cm, rfl⟩ := own_slice hos.mem
      obtain ⟨Av, cv, rfl⟩ := own_slice hos.ths
      have HOS := Lib.hid hos
      have HB2 := Lib.hid (chain HB1.out hb2)
      have HBF2 := Lib.hid (chain HBF.out hb2)
      clear hos hb2 x0 x1 y0 y1
      have HRR := Lib.hid (HR.out.below HB2.out HR.out.lt)
      clear k0 k1
      have r0 := HRR.out.cell 0 _ rfl
      have r1 := HRR.out.cell 1 _ rfl
      have f0 := HRR.out.frozen 0
      have f1 := HRR.out.frozen 1
      obtain ⟨W9, hW9⟩ : ∃ W, W = (w2.setCell ⟨gr, 0, none⟩ (.slice Am (drn s k ⟨xa, xr, xe, xb⟩).mem.length cm)).setCell ⟨gr, 1, none⟩ (.slice Av (drn s k ⟨xa, xr, xe, xb⟩).ths.length cv) := ⟨_, rfl⟩
      have HR9 := Lib.hid (show BoxC W9 gr 62 #[(.slice Am (drn s k ⟨xa, xr, xe, xb⟩).mem.length cm), (.slice Av (drn s k ⟨xa, xr, xe, xb⟩).ths.length cv)] from by rw [hW9]; exact (HRR.out.set 0 _).set 1 _)
      have HO9 := Lib.hid (show OwnSt W3.heap.size W9 (.slice Am (drn s k ⟨xa, xr, xe, xb⟩).mem.length cm) (.slice Av (drn s k ⟨xa, xr, xe, xb⟩).ths.length cv) (drn s k ⟨xa, xr, xe, xb⟩) ps from by
        rw [hW9]
        exact ((HOS.out.base HB1.out.size).box HRR.out (by decide) (by decide) (by decide) 0 _).box (HRR.out.set 0 _) (by decide) (by decide) (by decide) 1 _)
      have HB9 := Lib.hid (show Below w.heap.size w W9 from by rw [hW9]; exact (HBF2.out.setCell (p := ⟨gr, 0, none⟩) HGR.out _).setCell (p := ⟨gr, 1, none⟩) HGR.out _)
      have HW9 := Lib.hid hW9
      clear hW9
      go_wp2_with fail
      rw [← HW9.out]
      clear r0 r1 f0 f1
      have r0 := HR9.out.cell 0 _ rfl
      have r1 := HR9.out.cell 1 _ rfl
      have hz := HCO.out
      refine bodyPost_ret (v := .tuple #[.agg #[(.slice Am (drn s k ⟨xa, xr, xe, xb⟩).mem.length cm), (.slice Av (drn s k ⟨xa, xr, xe, xb⟩).ths.length cv)], .bool true]) (by simp [results, Try.results49, go_sem, r0, r1, hz]) rfl ⟨_, _, _, by rw [HFE.out]; rfl, (by rw [HFE.out]; exact HO9.out.base HB3.out.size), HB9.out⟩
    · rcases hth : s.ths[k] with ⟨xa, xr, xe, xb⟩
      have hlo := (HOK.out.th k h1 h2).lo
      simp only [hth] at hse h3 hlo
      obtain ⟨n, rfl⟩ : ∃ n : Nat, xa = n := ⟨xa.toNat, by omega⟩
      have hn : n < P.ths[k].length := by simpa using h3
      rcases hx : P.ths[k][n] with ⟨op, rg, lc, nn, tn⟩
      simp only [Int.toNat_natCast, hx] at hse
      subst hse
      have HSK := Lib.hid (fun W hW => HSP.out W k n op rg lc nn tn xr xe xb h1 h2 hth hn hx hW)
      clear hst hth hx h3 HDR HSP HOWN
      go_wp2_with fail
      refine (HSK.out _ HBF.out).mono ?_
      rintro e w2 ⟨vm, vt, ps, rfl, hos, hb2⟩
      obtain ⟨Am, cm, rfl⟩ := own_slice hos.mem
      obtain ⟨Av, cv, rfl⟩ := own_slice hos.ths
      have HOS := Lib.hid hos
      have HB2 := Lib.hid (chain HB1.out hb2)
      have HBF2 := Lib.hid (chain HBF.out hb2)
      clear hos hb2 x0 x1 y0 y1
      have HRR := Lib.hid (HR.out.below HB2.out HR.out.lt)
      clear k0 k1
      have r0 := HRR.out.cell 0 _ rfl
      have r1 := HRR.out.cell 1 _ rfl
      have f0 := HRR.out.frozen 0
      have f1 := HRR.out.frozen 1
      obtain ⟨W9, hW9⟩ : ∃ W, W = (w2.setCell ⟨gr, 0, none⟩ (.slice Am (tsS ⟨op, rg, lc, nn, tn⟩ s k ⟨(n : Int), xr, xe, xb⟩).mem.length cm)).setCell ⟨gr, 1, none⟩ (.slice Av (tsS ⟨op, rg, lc, nn, tn⟩ s k ⟨(n : Int), xr, xe, xb⟩).ths.length cv) := ⟨_, rfl⟩
      have HR9 := Lib.hid (show BoxC W9 gr 62 #[(.slice Am (tsS ⟨op, rg, lc, nn, tn⟩ s k ⟨(n : Int), xr, xe, xb⟩).mem.length cm), (.slice Av (tsS ⟨op, rg, lc, nn, tn⟩ s k ⟨(n : Int), xr, xe, xb⟩).ths.length cv)] from by rw [hW9]; exact (HRR.out.set 0 _).set 1 _)
      have HO9 := Lib.hid (show OwnSt W3.heap.size W9 (.slice Am (tsS ⟨op, rg, lc, nn, tn⟩ s k ⟨(n : Int), xr, xe, xb⟩).mem.length cm) (.slice Av (tsS ⟨op, rg, lc, nn, tn⟩ s k ⟨(n : Int), xr, xe, xb⟩).ths.length cv) (tsS ⟨op, rg, lc, nn, tn⟩ s k ⟨(n : Int), xr, xe, xb⟩) ps from by
        rw [hW9]
        exact ((HOS.out.base HB1.out.size).box HRR.out (by decide) (by decide) (by decide) 0 _).box (HRR.out.set 0 _) (by decide) (by decide) (by decide) 1 _)
      have HB9 := Lib.hid (show Below w.heap.size w W9 from by rw [hW9]; exact (HBF2.out.setCell (p := ⟨gr, 0, none⟩) HGR.out _).setCell (p := ⟨gr, 1, none⟩) HGR.out _)
      have HW9 := Lib.hid hW9
      clear hW9
      go_wp2_with fail
      rw [← HW9.out]
      clear r0 r1 f0 f1
      have r0 := HR9.out.cell 0 _ rfl
      have r1 := HR9.out.cell 1 _ rfl
      have hz := HCO.out
      refine bodyPost_ret (v := .tuple #[.agg #[(.slice Am (tsS ⟨op, rg, lc, nn, tn⟩ s k ⟨(n : Int), xr, xe, xb⟩).mem.length cm), (.slice Av (tsS ⟨op, rg, lc, nn, tn⟩ s k ⟨(n : Int), xr, xe, xb⟩).ths.length cv)], .bool true]) (by simp [results, Try.results49, go_sem, r0, r1, hz]) rfl ⟨_, _, _, by rw [HFE.out]; rfl, (by rw [HFE.out]; exact HO9.out.base HB3.out.size), HB9.out⟩
end Go.Proofs.Ytbffjhdocicfoaa
