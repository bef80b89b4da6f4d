/-
  THE DOCUMENT's Step of layer 10.
-/
import Derived.Test.YtlpjgaeelnlipaaGreatK02
import Derived.Test.YtlpjgaeelnlipaaGreatK12
import Derived.Test.YtlpjgaeelnlipaaGreatK16
import Derived.Deep.RegionHeld3
import Derived.Deep.DeepCutAuto
namespace Go.Proofs.YtlpjgaeelnlipaaGreat
open Go.RowKit
set_option linter.unusedVariables false
set_option linter.unusedSimpArgs false
open CodM (St Pg rightP hReg hLoc)
open BfM (Wr plc)
open ScM

set_option maxHeartbeats 8000000 in
set_option maxRecDepth 100000 in
theorem refstep_any {B : Nat} {v u : Value} {P : Pg} {s : Sta} (t : Int) (w : World) (hv : PgV B w v P) (hu : StaV B w u s) (hBB : B ≤ w.heap.size) (hp : rightP P = true) (ho : OkSt P s) (hw : WideS s) :
    Calls Tryz.prog 52 #[v, u, .int .i64 t] w (StpRet P s t w) := by
  have HOWN := Lib.hid (fun W (hW : Below w.heap.size w W) => rown_any W ((hu.below (hW.mono hBB)).more (Nat.le_trans hBB hW.size)) (Nat.le_refl _) hw)
  have HAT := Lib.hid (fun W (hW : Below w.heap.size w W) => rat_any t W ((hv.below (hW.mono hBB)).more (Nat.le_trans hBB hW.size)) ((hu.below (hW.mono hBB)).more (Nat.le_trans hBB hW.size)) (Nat.le_refl _) ho)
  obtain ⟨pi, pt, rfl, hpm⟩ := hv
  obtain ⟨um, ut, rfl, hum⟩ := hu
  obtain ⟨⟨P0, d0, rfl, -⟩, ⟨P1, d1, rfl, -⟩⟩ := hpm
  obtain ⟨⟨A7, c7, rfl, -⟩, ⟨A1, c1, rfl, -⟩⟩ := hum
  have HP := Lib.hid hp
  have HO := Lib.hid ho
  clear hp ho hw
  have HCO := Lib.hid (show Tryz.prog.cellsOf 39 = 2 from by kernel_rfl)
  obtain ⟨W3, hW3⟩ : ∃ W, W = ((w.alloc (.cells #[.slice P0 P.init.length d0, .slice P1 P.ths.length d1] 25)).alloc (.cells #[.slice A7 s.mem.length c7, .slice A1 s.ths.length c1] 39)).alloc (.cells #[.slice none 0 0, .slice none 0 0] 39) := ⟨_, rfl⟩
  obtain ⟨gp, hgp⟩ : ∃ g, g = w.heap.size := ⟨_, rfl⟩
  obtain ⟨gs, hgs⟩ : ∃ g, g = w.heap.size + 1 := ⟨_, rfl⟩
  obtain ⟨gr, hgr⟩ : ∃ g, g = w.heap.size + 1 + 1 := ⟨_, rfl⟩
  have HX := Lib.hid (show BoxC W3 gp 25 #[.slice P0 P.init.length d0, .slice P1 P.ths.length d1] from by rw [hW3, hgp]; exact ((BoxC.new w _ _).alloc _).alloc _)
  have HY := Lib.hid (show BoxC W3 gs 39 #[.slice A7 s.mem.length c7, .slice A1 s.ths.length c1] from by rw [hW3, hgs]; have := (BoxC.new (w.alloc (.cells #[.slice P0 P.init.length d0, .slice P1 P.ths.length d1] 25)) 39 #[.slice A7 s.mem.length c7, .slice A1 s.ths.length c1]).alloc (.cells #[.slice none 0 0, .slice none 0 0] 39); rw [World.size_alloc] at this; exact this)
  have HR := Lib.hid (show BoxC W3 gr 39 #[.slice none 0 0, .slice none 0 0] from by rw [hW3, hgr]; have := BoxC.new ((w.alloc (.cells #[.slice P0 P.init.length d0, .slice P1 P.ths.length d1] 25)).alloc (.cells #[.slice A7 s.mem.length c7, .slice A1 s.ths.length c1] 39)) 39 #[.slice none 0 0, .slice none 0 0]; rw [World.size_alloc, World.size_alloc] at this; exact this)
  have HB3 := Lib.hid (show Below w.heap.size w W3 from by rw [hW3]; exact below_al (below_al (below_al (Below.refl _ _) _) _) _)
  have HGR := Lib.hid (show w.heap.size ≤ gr from by omega)
  have y0 := HY.out.cell 0 _ rfl
  have y1 := HY.out.cell 1 _ rfl
  go_enter Tryz.func52, Tryz.ntmps52
  go_upto_region 1 with fail
  rw [← hW3]
  (try rw [← hgr])
  (try rw [← hgs])
  (try rw [← hgp])
  clear hW3 hgr hgs hgp
  go_wp2_with fail
  refine (HOWN.out _ HB3.out).mono ?_
  rintro e w1 ⟨vm, vt, ps, rfl, hos, hb1⟩
  have HOS := Lib.hid hos
  have HB1 := Lib.hid hb1
  obtain ⟨Am, cm, rfl⟩ := own_slice hos.mem
  obtain ⟨Av, cv, rfl⟩ := own_slice hos.ths
  clear hos hb1 HOWN y0 y1
  go_upto_region 2 with fail
  obtain ⟨X1, hX1⟩ : ∃ W, W = w1.alloc (.cells #[.slice Am s.mem.length cm, .slice Av s.ths.length cv] 39) := ⟨_, rfl⟩
  obtain ⟨go, hgo⟩ : ∃ g, g = w1.heap.size := ⟨_, rfl⟩
  have HQ1 := Lib.hid (show BoxC X1 go 39 #[.slice Am s.mem.length cm, .slice Av s.ths.length cv] from by rw [hX1, hgo]; exact BoxC.new w1 _ _)
  have HL1 := Lib.hid (show Below w1.heap.size w1 X1 from by rw [hX1]; exact below_al (Below.refl _ _) _)
  have HL3 := Lib.hid (chain HB1.out HL1.out)
  replace HOS := Lib.hid (HOS.out.below HL1.out)
  rw [← hX1]
  (try rw [← hgo])
  clear hX1 hgo
  have y0 := (HY.out.below HL3.out HY.out.lt).cell 0 _ rfl
  have y1 := (HY.out.below HL3.out HY.out.lt).cell 1 _ rfl
  have x0 := (HX.out.below HL3.out HX.out.lt).cell 0 _ rfl
  have x1 := (HX.out.below HL3.out HX.out.lt).cell 1 _ rfl
  go_wp2_with fail
  refine (HAT.out _ (chain HB3.out HL3.out)).mono ?_
  rintro e w2 ⟨rfl, hb2⟩
  have HB2 := Lib.hid hb2
  clear hb2 y0 y1 x0 x1 HAT
  replace HL3 := Lib.hid (chain HL3.out HB2.out)
  replace HOS := Lib.hid (HOS.out.below HB2.out)
  replace HQ1 := Lib.hid (HQ1.out.below HB2.out HQ1.out.lt)
  clear HB2 HL1 HB1
  cases hat : atS P s t with
  | none =>
    have HAE := Lib.hid hat
    have HRE := Lib.hid (show atV P s t = .tuple #[stV ⟨0, 0, 0, 0, 0⟩, .bool false] from by unfold atV; rw [hat])
    have HSE := Lib.hid (stp_no hat)
    clear hat
    rw [HRE.out]
    unfold stV
    go_upto_region 4 with fail
    obtain ⟨X2, hX2⟩ : ∃ W, W = w2.alloc (.cells #[.int .i64 0, .int .i64 0, .int .i64 0, .int .i64 0, .int .i64 0] 75) := ⟨_, rfl⟩
    have HL2 := Lib.hid (show Below w2.heap.size w2 X2 from by rw [hX2]; exact below_al (Below.refl _ _) _)
    rw [← hX2]
    clear hX2
    replace HOS := Lib.hid (HOS.out.below HL2.out)
    replace HQ1 := Lib.hid (HQ1.out.below HL2.out HQ1.out.lt)
    replace HL3 := Lib.hid (chain HL3.out HL2.out)
    have HRR := Lib.hid (HR.out.below HL3.out HR.out.lt)
    have y0 := HQ1.out.cell 0 _ rfl
    have y1 := HQ1.out.cell 1 _ rfl
    have r0 := HRR.out.cell 0 _ rfl
    have r1 := HRR.out.cell 1 _ rfl
    have f0 := HRR.out.frozen 0
    have f1 := HRR.out.frozen 1
    obtain ⟨W9, hW9⟩ : ∃ W, W = (X2.setCell ⟨gr, 0, none⟩ (.slice Am s.mem.length cm)).setCell ⟨gr, 1, none⟩ (.slice Av s.ths.length cv) := ⟨_, rfl⟩
    have HR9 := Lib.hid (show BoxC W9 gr 39 #[.slice Am s.mem.length cm, .slice Av s.ths.length cv] from by rw [hW9]; exact (HRR.out.set 0 _).set 1 _)
    have HO9 := Lib.hid (show OwnSt W3.heap.size W9 (.slice Am s.mem.length cm) (.slice Av s.ths.length cv) (stp P s t) ps from by
      rw [hW9]
      exact ((HOS.out.cast HSE.out.symm).box HRR.out (by decide) (by decide) (by decide) 0 _).box (HRR.out.set 0 _) (by decide) (by decide) (by decide) 1 _)
    have HB9 := Lib.hid (show Below w.heap.size w W9 from by rw [hW9]; exact ((chain HB3.out HL3.out).setCell (p := ⟨gr, 0, none⟩) HGR.out _).setCell (p := ⟨gr, 1, none⟩) HGR.out _)
    have HW9 := Lib.hid hW9
    clear hW9
    go_wp2_with fail
    rw [← HW9.out]
    clear r0 r1 f0 f1
    have r0 := HR9.out.cell 0 _ rfl
    have r1 := HR9.out.cell 1 _ rfl
    have hz := HCO.out
    refine bodyPost_ret (v := .tuple #[.agg #[.slice Am s.mem.length cm, .slice Av s.ths.length cv], .bool false]) (by simp [results, Tryz.results52, go_sem, r0, r1, hz]) rfl ⟨_, _, _, by rw [HAE.out]; rfl, HO9.out.base HB3.out.size, HB9.out⟩

  | some x =>
    obtain ⟨k, rfl, h1, h2, h3, hx⟩ := atS_some hat
    have HAE := Lib.hid hat
    have HRE := Lib.hid (show atV P s (k : Int) = .tuple #[stV x, .bool true] from by unfold atV; rw [hat])
    have HSE := Lib.hid (show stp P s (k : Int) = ⟨stM x s.mem s.ths[k].regs, s.ths.set k (stT x s.mem s.ths[k])⟩ from by rw [stp_at h1 h2 h3, ← hx])
    have HPX := Lib.hid (show StP s.mem.length P.ths[k].length s.ths[k].at'.toNat x from by rw [HO.out.mem, hx]; exact stp_of HP.out h2 h3)
    have HTH := Lib.hid (HO.out.th k h1 h2)
    have HLE := Lib.hid ((right_ths HP.out).2.2.2 k h2)
    have HHH := Lib.hid (show s.ths[k]? = some s.ths[k] from List.getElem?_eq_getElem h1)
    have hkp : k < ps.length := by rw [HOS.out.len]; exact h1
    have HPK := Lib.hid (show ps[k]? = some ⟨s.ths[k], ps[k].vr, ps[k].vb⟩ from by rw [List.getElem?_eq_getElem hkp, ← HOS.out.at hkp h1])
    have HOE := Lib.hid (HOS.out.each _ (List.getElem_mem hkp))
    have HPT := Lib.hid (HOS.out.at hkp h1)
    have HRW := Lib.hid (fun W (hW : Below w2.heap.size w2 W) => (HOS.out.below hW).row hkp)
    have HKS := Lib.hid h1
    rw [HPT.out] at HOE HRW
    generalize ps[k] = pk at *
    generalize s.ths[k] = h at *
    generalize P.ths[k] = ss at *
    clear hx hat h1 h2 hkp HPT
    obtain ⟨pt, vr, vb⟩ := pk
    dsimp only at HOE HRW HPK
    obtain ⟨xa, xr, xe, xb⟩ := h
    have HXR := Lib.hid (show xr.length = 4 from HTH.out.regs)
    obtain ⟨n, rfl⟩ : ∃ n : Nat, xa = n := ⟨xa.toNat, by have h : 0 ≤ xa := HTH.out.lo; omega⟩
    have hn80 : n < 80 := by
      have := HLE.out
      simp only [Int.toNat_natCast] at h3
      omega
    obtain ⟨Ar, cr, rfl⟩ := own_slice HOE.out.1
    obtain ⟨Ab, cb, rfl⟩ := own_slice HOE.out.2.1
    dsimp only at HOE HRW HPK
    obtain ⟨op, rg, lc, nn, tn⟩ := x
    clear h3 HLE HTH
    rw [HRE.out]
    unfold stV
    dsimp only
    go_upto_region 5 with fail
    obtain ⟨X2, hX2⟩ : ∃ W, W = w2.alloc (.cells #[.int .i64 op, .int .i64 rg, .int .i64 lc, .int .i64 nn, .int .i64 tn] 75) := ⟨_, rfl⟩
    obtain ⟨g9, hg9⟩ : ∃ g, g = w2.heap.size := ⟨_, rfl⟩
    have HL2 := Lib.hid (show Below w2.heap.size w2 X2 from by rw [hX2]; exact below_al (Below.refl _ _) _)
    have HQ9 := Lib.hid (show BoxC X2 g9 75 #[.int .i64 op, .int .i64 rg, .int .i64 lc, .int .i64 nn, .int .i64 tn] from by rw [hX2, hg9]; exact BoxC.new w2 _ _)
    rw [← hX2]
    (try rw [← hg9])
    clear hX2 hg9
    replace HOS := Lib.hid (HOS.out.below HL2.out)
    replace HQ1 := Lib.hid (HQ1.out.below HL2.out HQ1.out.lt)
    replace HL3 := Lib.hid (chain HL3.out HL2.out)
    have HRR := Lib.hid (HR.out.below HL3.out HR.out.lt)
    obtain ⟨gv, cv', cur, hev, hgv, hbv, z0, z1, z2, z3⟩ := HRW.out X2 HL2.out
    injection hev with hev1 hev3 hev2
    clear hev3
    subst hev1 hev2
    have HBV := Lib.hid hbv
    have HGV := Lib.hid hgv
    have y1 := HQ1.out.cell 1 _ rfl
    have HL2' := Lib.hid HL2.out
    clear HRW HL2 hbv hgv
    go_upto_region 6 with fail
    obtain ⟨X3, hX3⟩ : ∃ W, W = X2.alloc (.cells #[.int .i64 n, .slice Ar xr.length cr, .bool xe, .slice Ab xb.length cb] 44) := ⟨_, rfl⟩
    obtain ⟨gx, hgx⟩ : ∃ g, g = X2.heap.size := ⟨_, rfl⟩
    have HLx := Lib.hid (show Below X2.heap.size X2 X3 from by rw [hX3]; exact below_al (Below.refl _ _) _)
    have HQx := Lib.hid (show BoxC X3 gx 44 #[.int .i64 n, .slice Ar xr.length cr, .bool xe, .slice Ab xb.length cb] from by rw [hX3, hgx]; exact BoxC.new X2 _ _)
    have HGX := Lib.hid (show X2.heap.size ≤ gx from by omega)
    rw [← hX3]
    (try rw [← hgx])
    clear hX3 hgx z0 z1 z2 z3 y1
    have x0 := HQx.out.cell 0 _ rfl
    have f0 := HQx.out.frozen 0
    have hwr : IntKind.i64.wrap ((n : Int) + 1) = (n : Int) + 1 := IntWalk.i64_in _ (by omega)
    go_upto_region 7 with fail
    obtain ⟨X4, hX4⟩ : ∃ W, W = X3.setCell ⟨gx, 0, none⟩ (.int .i64 ((n : Int) + 1)) := ⟨_, rfl⟩
    have HLy := Lib.hid (show Below X2.heap.size X2 X4 from by rw [hX4]; exact HLx.out.setCell (p := ⟨gx, 0, none⟩) HGX.out _)
    have HQy := Lib.hid (show BoxC X4 gx 44 #[.int .i64 ((n : Int) + 1), .slice Ar xr.length cr, .bool xe, .slice Ab xb.length cb] from by rw [hX4]; exact HQx.out.set 0 _)
    rw [← hX4]
    clear hX4 x0 f0 hwr HQx HLx
    obtain ⟨at2, hat2⟩ : ∃ a : Int, a = if jumps (⟨op, rg, lc, nn, tn⟩ : St) xe = true then tn else (n : Int) + 1 := ⟨_, rfl⟩
    have HA2 := Lib.hid hat2
    have HSE2 := Lib.hid (show stT (⟨op, rg, lc, nn, tn⟩ : St) s.mem (⟨(n : Int), xr, xe, xb⟩ : Th) = ⟨at2, stR ⟨op, rg, lc, nn, tn⟩ s.mem xr, stE ⟨op, rg, lc, nn, tn⟩ xr xe, xb⟩ from by rw [hat2]; rfl)
    clear hat2
    have HJ := Lib.hid (fun W => rjumps_any ⟨op, rg, lc, nn, tn⟩ xe W)
    have HQ9' := Lib.hid (HQ9.out.below HLy.out HQ9.out.lt)
    have q0 := HQ9'.out.cell 0 _ rfl
    have q1 := HQ9'.out.cell 1 _ rfl
    have q2 := HQ9'.out.cell 2 _ rfl
    have q3 := HQ9'.out.cell 3 _ rfl
    have q4 := HQ9'.out.cell 4 _ rfl
    have x2 := HQy.out.cell 2 _ rfl
    go_wp2_with fail
    refine (HJ.out _).mono ?_
    rintro e w5 ⟨rfl, hb5⟩
    have HB5 := Lib.hid hb5
    clear hb5 q0 q1 q2 q3 q4 x2
    replace HQ9' := Lib.hid (HQ9'.out.below HB5.out HQ9'.out.lt)
    have HQz := Lib.hid (HQy.out.below HB5.out HQy.out.lt)
    have HLz := Lib.hid (chain HLy.out HB5.out)
    go_upto_if 37 with fail
    go_cut [] (fun wx => BoxC wx gx 44 #[.int .i64 at2, .slice Ar xr.length cr, .bool xe, .slice Ab xb.length cb] ∧ Below X2.heap.size X2 wx)
    case first =>
      have q4 := HQ9'.out.cell 4 _ rfl
      have x0 := HQz.out.cell 0 _ rfl
      have f0 := HQz.out.frozen 0
      cases hj : jumps (⟨op, rg, lc, nn, tn⟩ : St) xe
      case true =>
        go_wp2_with fail
        go_meet
        rw [show at2 = tn from by rw [HA2.out, hj]; rfl]
        exact ⟨HQz.out.set 0 _, HLz.out.setCell (p := ⟨gx, 0, none⟩) HGX.out _⟩
      case false =>
        go_wp2_with fail
        go_meet
        rw [show at2 = (n : Int) + 1 from by rw [HA2.out, hj]; rfl]
        exact ⟨HQz.out, HLz.out⟩
    case rest =>
      obtain ⟨hqc, hlc⟩ := hcut
      have HQx := Lib.hid hqc
      have HLx := Lib.hid hlc
      clear hqc hlc HQy HLy
      rename World => X5
      have HQ9' := Lib.hid (HQ9.out.below HLx.out HQ9.out.lt)
      have HQo := Lib.hid (HQ1.out.below HLx.out HQ1.out.lt)
      have HRr := Lib.hid (HRR.out.below HLx.out HRR.out.lt)
      have HOz := Lib.hid (HOS.out.below HLx.out)
      have HL5a := Lib.hid (chain HB3.out (chain HL3.out HLx.out))
      have HLx' := Lib.hid HLx.out
      have HBg := Lib.hid HB3.out.size
      have HOS2 := Lib.hid HOS.out
      have HGW := Lib.hid (show w.heap.size ≤ gx from Nat.le_trans (chain HB3.out HL3.out).size HGX.out)
      have HLX2 := Lib.hid HLx.out
      clear HQ9 HQ1 HRR HOS HLx
      by_cases o1 : op = 1
      · subst o1
        obtain ⟨ra, rb⟩ := HPX.out.reg rfl
        dsimp only at ra rb
        obtain ⟨r, rfl⟩ : ∃ r : Nat, rg = r := ⟨rg.toNat, by omega⟩
        have hr4 : r < xr.length := by rw [HXR.out]; omega
        obtain ⟨g, c, cu, e, hg, hbg, cell⟩ := own_nu (own_below (own_below HOE.out.1 HL2'.out) HLx'.out) hr4
        injection e with e1 e3 e2
        clear e3
        subst e1 e2
        obtain ⟨zr, hzr⟩ : ∃ z, z = xr[r] := ⟨_, rfl⟩
        rw [← hzr] at cell
        have HZR := Lib.hid (show nth xr (r : Int) = zr from by unfold nth; rw [hzr]; simp [hr4])
        clear hzr
        have HBG := Lib.hid hbg
        have HCL := Lib.hid cell
        have HG := Lib.hid (Nat.le_trans HBg.out hg)
        have HR4 := Lib.hid hr4
        have fg := HBG.out.frozen r
        clear hbg cell hg
        skip
        obtain ⟨Y, hY⟩ : ∃ W, W = X5.setCell ⟨g, r, none⟩ (.int .i64 nn) := ⟨_, rfl⟩
        have HSW := Lib.hid (show SwP W3.heap.size w gx go gr (.slice Am s.mem.length cm) (.slice (some ⟨gv, 0, none⟩) s.ths.length cv) (.slice (some ⟨g, 0, none⟩) xr.length cr) (.slice Ab xb.length cb) at2 s k ⟨(n : Int), xr, xe, xb⟩ ⟨1, r, lc, nn, tn⟩ Y from by rw [hY]; exact sw_r HOz.out HPK.out HBG.out rfl rfl HQx.out HQo.out HRr.out HL5a.out HG.out)
        have q0 := HQ9'.out.cell 0 _ rfl
        have q1 := HQ9'.out.cell 1 _ rfl
        have q3 := HQ9'.out.cell 3 _ rfl
        have x1 := HQx.out.cell 1 _ rfl
        have gg := HCL.out
        go_upto_region 24 with fail
        rw [← hY]
        clear hY q0 q1 q3 x1 gg fg
        obtain ⟨ps1, hk1, ho1, b1, b2, b3, hB8⟩ := HSW.out
        have HO1 := Lib.hid ho1
        have HK1 := Lib.hid hk1
        have HB1 := Lib.hid b1
        have HB2 := Lib.hid b2
        have HB3' := Lib.hid b3
        have HB8 := Lib.hid hB8
        obtain ⟨gv', cv', cur', hev, hgv', hbv', z0, z1, z2, z3⟩ := HO1.out.row (List.getElem?_eq_some_iff.1 HK1.out).1
        injection hev with hev1 hev3 hev2
        clear hev3
        subst hev2
        injection hev1 with hev1
        injection hev1 with hev1
        subst hev1
        have HBV' := Lib.hid hbv'
        have HGV' := Lib.hid hgv'
        have g0 := HBV'.out.frozen (k * 4)
        have g1 := HBV'.out.frozen (k * 4 + 1)
        have g2 := HBV'.out.frozen (k * 4 + 2)
        have g3 := HBV'.out.frozen (k * 4 + 3)
        have t0 := HB1.out.cell 0 _ rfl
        have t1 := HB1.out.cell 1 _ rfl
        have t2 := HB1.out.cell 2 _ rfl
        have t3 := HB1.out.cell 3 _ rfl
        have y1 := HB2.out.cell 1 _ rfl
        clear ho1 hk1 b1 b2 b3 hB8 hbv' hgv'
        go_upto_region 25 with fail
        obtain ⟨ps2, ho2⟩ := HO1.out.put (b := ⟨at2, stR ⟨1, (r : Int), lc, nn, tn⟩ s.mem xr, stE ⟨1, (r : Int), lc, nn, tn⟩ xr xe, xb⟩) HK1.out rfl rfl
        obtain ⟨Z, hZ⟩ : ∃ W, W = (((Y.setCell ⟨gv, k * 4, none⟩ (.int .i64 at2)).setCell ⟨gv, k * 4 + 1, none⟩ (.slice (some ⟨g, 0, none⟩) xr.length cr)).setCell ⟨gv, k * 4 + 2, none⟩ (.bool (stE ⟨1, (r : Int), lc, nn, tn⟩ xr xe))).setCell ⟨gv, k * 4 + 3, none⟩ (.slice Ab xb.length cb) := ⟨_, rfl⟩
        have HO2 := Lib.hid (show OwnSt W3.heap.size Z (.slice Am s.mem.length cm) (.slice (some ⟨gv, 0, none⟩) s.ths.length cv) (stp P s (k : Int)) ps2 from by rw [hZ]; exact ho2.cast (by rw [HSE.out, HSE2.out]))
        have hne1 := HB3'.out.unlike HBV'.out (by decide)
        have HRR := Lib.hid (show BoxC Z gr 39 #[.slice none 0 0, .slice none 0 0] from by rw [hZ]; exact (((HB3'.out.other hne1 _ _).other hne1 _ _).other hne1 _ _).other hne1 _ _)
        have hne2 := HB2.out.unlike HBV'.out (by decide)
        have HQZ := Lib.hid (show BoxC Z go 39 #[(.slice Am s.mem.length cm), .slice (some ⟨gv, 0, none⟩) s.ths.length cv] from by rw [hZ]; exact (((HB2.out.other hne2 _ _).other hne2 _ _).other hne2 _ _).other hne2 _ _)
        have hgw := Nat.le_trans HBg.out HGV'.out
        have HBZ := Lib.hid (show Below w.heap.size w Z from by rw [hZ]; exact (((HB8.out.setCell (p := ⟨gv, k * 4, none⟩) hgw _).setCell (p := ⟨gv, k * 4 + 1, none⟩) hgw _).setCell (p := ⟨gv, k * 4 + 2, none⟩) hgw _).setCell (p := ⟨gv, k * 4 + 3, none⟩) hgw _)
        rw [← hZ]
        clear hZ ho2 hne1 hne2 hgw z0 z1 z2 z3 g0 g1 g2 g3 t0 t1 t2 t3 y1
        have y0 := HQZ.out.cell 0 _ rfl
        have y1 := HQZ.out.cell 1 _ rfl
        have r0 := HRR.out.cell 0 _ rfl
        have r1 := HRR.out.cell 1 _ rfl
        have f0 := HRR.out.frozen 0
        have f1 := HRR.out.frozen 1
        obtain ⟨W9, hW9⟩ : ∃ W, W = (Z.setCell ⟨gr, 0, none⟩ (.slice Am s.mem.length cm)).setCell ⟨gr, 1, none⟩ (.slice (some ⟨gv, 0, none⟩) s.ths.length cv) := ⟨_, rfl⟩
        have HR9 := Lib.hid (show BoxC W9 gr 39 #[(.slice Am s.mem.length cm), .slice (some ⟨gv, 0, none⟩) s.ths.length cv] from by rw [hW9]; exact (HRR.out.set 0 _).set 1 _)
        have HO9 := Lib.hid (show OwnSt W3.heap.size W9 (.slice Am s.mem.length cm) (.slice (some ⟨gv, 0, none⟩) s.ths.length cv) (stp P s (k : Int)) ps2 from by
          rw [hW9]
          exact (HO2.out.box HRR.out (by decide) (by decide) (by decide) 0 _).box (HRR.out.set 0 _) (by decide) (by decide) (by decide) 1 _)
        have HB9 := Lib.hid (show Below w.heap.size w W9 from by rw [hW9]; exact (HBZ.out.setCell (p := ⟨gr, 0, none⟩) HGR.out _).setCell (p := ⟨gr, 1, none⟩) HGR.out _)
        have HW9 := Lib.hid hW9
        clear hW9
        go_wp2_with fail
        rw [← HW9.out]
        clear r0 r1 f0 f1
        have r0 := HR9.out.cell 0 _ rfl
        have r1 := HR9.out.cell 1 _ rfl
        have hz := HCO.out
        refine bodyPost_ret (v := .tuple #[.agg #[(.slice Am s.mem.length cm), .slice (some ⟨gv, 0, none⟩) s.ths.length cv], .bool true]) (by simp [results, Tryz.results52, go_sem, r0, r1, hz]) rfl ⟨_, _, _, by rw [HAE.out]; rfl, HO9.out.base HB3.out.size, HB9.out⟩
      by_cases o2 : op = 2
      · subst o2
        obtain ⟨ra, rb⟩ := HPX.out.reg rfl
        dsimp only at ra rb
        obtain ⟨r, rfl⟩ : ∃ r : Nat, rg = r := ⟨rg.toNat, by omega⟩
        have hr4 : r < xr.length := by rw [HXR.out]; omega
        obtain ⟨g, c, cu, e, hg, hbg, cell⟩ := own_nu (own_below (own_below HOE.out.1 HL2'.out) HLx'.out) hr4
        injection e with e1 e3 e2
        clear e3
        subst e1 e2
        obtain ⟨zr, hzr⟩ : ∃ z, z = xr[r] := ⟨_, rfl⟩
        rw [← hzr] at cell
        have HZR := Lib.hid (show nth xr (r : Int) = zr from by unfold nth; rw [hzr]; simp [hr4])
        clear hzr
        have HBG := Lib.hid hbg
        have HCL := Lib.hid cell
        have HG := Lib.hid (Nat.le_trans HBg.out hg)
        have HR4 := Lib.hid hr4
        have fg := HBG.out.frozen r
        clear hbg cell hg
        obtain ⟨la, lb⟩ := HPX.out.loc rfl
        dsimp only at la lb
        obtain ⟨l, rfl⟩ : ∃ l : Nat, lc = l := ⟨lc.toNat, by omega⟩
        have hlm : l < s.mem.length := by omega
        obtain ⟨gm, c, cum, e, hgm, hbm, cell⟩ := own_nu HOz.out.mem hlm
        injection e with e1 e3 e2
        clear e3
        subst e1 e2
        obtain ⟨zm, hzm⟩ : ∃ z, z = s.mem[l] := ⟨_, rfl⟩
        rw [← hzm] at cell
        have HZM := Lib.hid (show nth s.mem (l : Int) = zm from by unfold nth; rw [hzm]; simp [hlm])
        clear hzm
        have HBM := Lib.hid hbm
        have HCM := Lib.hid cell
        have HGM := Lib.hid (Nat.le_trans HBg.out hgm)
        have fm := HBM.out.frozen l
        clear hbm cell hgm la lb
        clear o1
        have hgx : gx ≠ g := HQx.out.unlike HBG.out (by decide)
        have hg9 : g9 ≠ g := HQ9'.out.unlike HBG.out (by decide)
        have hgo : go ≠ g := HQo.out.unlike HBG.out (by decide)
        have hmr : gm ≠ g := fun e => HOE.out.2.2 gm rfl (by rw [e]; rfl)
        have q0 := HQ9'.out.cell 0 _ rfl
        have q1 := HQ9'.out.cell 1 _ rfl
        have q2 := HQ9'.out.cell 2 _ rfl
        have x1 := HQx.out.cell 1 _ rfl
        have y0 := HQo.out.cell 0 _ rfl
        have mm := HCM.out
        go_upto_region 13 with fail
        refine wp_region_held_drew (S := (fun w' => w'.cell? ⟨gx, 1, none⟩ = some (.slice (some ⟨g, 0, none⟩) xr.length cr) ∧ w'.cell? ⟨g9, 1, none⟩ = some (.int .i64 (r : Int)) ∧ w'.cell? ⟨go, 0, none⟩ = some ((.slice (some ⟨gm, 0, none⟩) s.mem.length cm)) ∧ w'.cell? ⟨g9, 2, none⟩ = some (.int .i64 (l : Int)) ∧ w'.cell? ⟨gm, l, none⟩ = some (.int .i64 zm) ∧ True)) (by kernel_rfl) ⟨x1, q1, y0, q2, mm, trivial⟩ (fun hHeld => ?_)
        obtain ⟨Xa, hXa⟩ : ∃ W, W = X5.drew := ⟨_, rfl⟩
        have HXa := Lib.hid (show Below X5.heap.size X5 Xa from by rw [hXa]; exact below_drewN (Below.refl _ _) 1)
        rw [← hXa] at hHeld ⊢
        have gg : Xa.cell? ⟨g, r, none⟩ = some (.int .i64 zr) := by rw [hXa]; exact HCL.out
        have fg : Xa.frozen? ⟨g, r, none⟩ = false := by rw [hXa]; exact HBG.out.frozen r
        have x1' : Xa.cell? ⟨gx, 1, none⟩ = some (.slice (some ⟨g, 0, none⟩) xr.length cr) := by rw [hXa]; exact x1
        have y0' : Xa.cell? ⟨go, 0, none⟩ = some ((.slice (some ⟨gm, 0, none⟩) s.mem.length cm)) := by rw [hXa]; exact y0
        have q1' : Xa.cell? ⟨g9, 1, none⟩ = some (.int .i64 (r : Int)) := by rw [hXa]; exact q1
        have q2' : Xa.cell? ⟨g9, 2, none⟩ = some (.int .i64 (l : Int)) := by rw [hXa]; exact q2
        have mm' : Xa.cell? ⟨gm, l, none⟩ = some (.int .i64 zm) := by rw [hXa]; exact mm
        clear hXa
        obtain ⟨Y, hY⟩ : ∃ W, W = Xa.setCell ⟨g, r, none⟩ (.int .i64 zm) := ⟨_, rfl⟩
        have HSW := Lib.hid (show SwP W3.heap.size w gx go gr (.slice (some ⟨gm, 0, none⟩) s.mem.length cm) (.slice (some ⟨gv, 0, none⟩) s.ths.length cv) (.slice (some ⟨g, 0, none⟩) xr.length cr) (.slice Ab xb.length cb) at2 s k ⟨(n : Int), xr, xe, xb⟩ ⟨2, r, l, nn, tn⟩ Y from by rw [hY]; exact sw_r (HOz.out.below HXa.out) HPK.out (HBG.out.below HXa.out HBG.out.lt) (by show xr.set _ (nth s.mem (l : Int)) = _; rw [HZM.out]; rfl) rfl (HQx.out.below HXa.out HQx.out.lt) (HQo.out.below HXa.out HQo.out.lt) (HRr.out.below HXa.out HRr.out.lt) (chain HL5a.out HXa.out) HG.out)
        refine wtk 0 ?_ ?_ ?_
        rotate_left
        · intro w hSw; (try dsimp only at hSw); go_simp; (try with_reducible rfl)
        (try simp only [Act.put, pt8])
        refine wtk 1 ?_ ?_ ?_
        rotate_left
        · intro w hSw; (try dsimp only at hSw); go_simp; (try with_reducible rfl)
        (try simp only [Act.put, pt8])
        refine wtk 2 ?_ ?_ ?_
        rotate_left
        · intro w hSw; (try dsimp only at hSw); go_simp; (try with_reducible rfl)
        (try simp only [Act.put, pt8])
        refine wtk 3 ?_ ?_ ?_
        rotate_left
        · intro w hSw; (try dsimp only at hSw); go_simp; (try with_reducible rfl)
        (try simp only [Act.put, pt8])
        refine wtk 4 ?_ ?_ ?_
        rotate_left
        · intro w hSw; (try dsimp only at hSw); go_simp; (try with_reducible rfl)
        (try simp only [Act.put, pt8])
        refine wtk 5 ?_ ?_ ?_
        rotate_left
        · intro w hSw; (try dsimp only at hSw); go_simp; (try with_reducible rfl)
        (try simp only [Act.put, pt8])
        refine wtk 6 ?_ ?_ ?_
        rotate_left
        · intro w hSw; (try dsimp only at hSw); go_simp; (try with_reducible rfl)
        (try simp only [Act.put, pt8])
        refine wtk 7 ?_ ?_ ?_
        rotate_left
        · intro w hSw; (try dsimp only at hSw); go_simp; (try with_reducible rfl)
        (try simp only [Act.put, pt8])
        refine wtk 8 ?_ ?_ ?_
        rotate_left
        · intro w hSw; (try dsimp only at hSw); go_simp; (try with_reducible rfl)
        (try simp only [Act.put, pt8])
        refine wtk 9 ?_ ?_ ?_
        rotate_left
        · intro w hSw; (try dsimp only at hSw); go_simp; (try with_reducible rfl)
        (try simp only [Act.put, pt8])
        refine wtk 10 ?_ ?_ ?_
        rotate_left
        · intro w hSw; (try dsimp only at hSw); go_simp; (try with_reducible rfl)
        (try simp only [Act.put, pt8])
        refine wpAnyH_ready (rs := [11]) (by kernel_rfl) (by simp) ?_
        refine AllReadyH.cons rfl (fun K hK => ?_) AllReadyH.nil
        go_simp
        refine hK.out _ _ ⟨st_ne hgx x1', st_ne hg9 q1', st_ne hgo y0', st_ne hg9 q2', st_ne hmr mm', trivial⟩ (fun hHeld => ?_)
        clear hK K
        (try simp only [Act.put, pt8])
        refine wpAnyH_done (by kernel_rfl) ?_ _
        clear hHeld
        go_upto_region 24 with fail
        rw [← hY]
        clear hY q0 q1 q2 x1 y0 mm gg fg x1' y0' q1' q2' mm'
        obtain ⟨ps1, hk1, ho1, b1, b2, b3, hB8⟩ := HSW.out
        have HO1 := Lib.hid ho1
        have HK1 := Lib.hid hk1
        have HB1 := Lib.hid b1
        have HB2 := Lib.hid b2
        have HB3' := Lib.hid b3
        have HB8 := Lib.hid hB8
        obtain ⟨gv', cv', cur', hev, hgv', hbv', z0, z1, z2, z3⟩ := HO1.out.row (List.getElem?_eq_some_iff.1 HK1.out).1
        injection hev with hev1 hev3 hev2
        clear hev3
        subst hev2
        injection hev1 with hev1
        injection hev1 with hev1
        subst hev1
        have HBV' := Lib.hid hbv'
        have HGV' := Lib.hid hgv'
        have g0 := HBV'.out.frozen (k * 4)
        have g1 := HBV'.out.frozen (k * 4 + 1)
        have g2 := HBV'.out.frozen (k * 4 + 2)
        have g3 := HBV'.out.frozen (k * 4 + 3)
        have t0 := HB1.out.cell 0 _ rfl
        have t1 := HB1.out.cell 1 _ rfl
        have t2 := HB1.out.cell 2 _ rfl
        have t3 := HB1.out.cell 3 _ rfl
        have y1 := HB2.out.cell 1 _ rfl
        clear ho1 hk1 b1 b2 b3 hB8 hbv' hgv'
        go_upto_region 25 with fail
        obtain ⟨ps2, ho2⟩ := HO1.out.put (b := ⟨at2, stR ⟨2, (r : Int), (l : Int), nn, tn⟩ s.mem xr, stE ⟨2, (r : Int), (l : Int), nn, tn⟩ xr xe, xb⟩) HK1.out rfl rfl
        obtain ⟨Z, hZ⟩ : ∃ W, W = (((Y.setCell ⟨gv, k * 4, none⟩ (.int .i64 at2)).setCell ⟨gv, k * 4 + 1, none⟩ (.slice (some ⟨g, 0, none⟩) xr.length cr)).setCell ⟨gv, k * 4 + 2, none⟩ (.bool (stE ⟨2, (r : Int), (l : Int), nn, tn⟩ xr xe))).setCell ⟨gv, k * 4 + 3, none⟩ (.slice Ab xb.length cb) := ⟨_, rfl⟩
        have HO2 := Lib.hid (show OwnSt W3.heap.size Z (.slice (some ⟨gm, 0, none⟩) s.mem.length cm) (.slice (some ⟨gv, 0, none⟩) s.ths.length cv) (stp P s (k : Int)) ps2 from by rw [hZ]; exact ho2.cast (by rw [HSE.out, HSE2.out]))
        have hne1 := HB3'.out.unlike HBV'.out (by decide)
        have HRR := Lib.hid (show BoxC Z gr 39 #[.slice none 0 0, .slice none 0 0] from by rw [hZ]; exact (((HB3'.out.other hne1 _ _).other hne1 _ _).other hne1 _ _).other hne1 _ _)
        have hne2 := HB2.out.unlike HBV'.out (by decide)
        have HQZ := Lib.hid (show BoxC Z go 39 #[(.slice (some ⟨gm, 0, none⟩) s.mem.length cm), .slice (some ⟨gv, 0, none⟩) s.ths.length cv] from by rw [hZ]; exact (((HB2.out.other hne2 _ _).other hne2 _ _).other hne2 _ _).other hne2 _ _)
        have hgw := Nat.le_trans HBg.out HGV'.out
        have HBZ := Lib.hid (show Below w.heap.size w Z from by rw [hZ]; exact (((HB8.out.setCell (p := ⟨gv, k * 4, none⟩) hgw _).setCell (p := ⟨gv, k * 4 + 1, none⟩) hgw _).setCell (p := ⟨gv, k * 4 + 2, none⟩) hgw _).setCell (p := ⟨gv, k * 4 + 3, none⟩) hgw _)
        rw [← hZ]
        clear hZ ho2 hne1 hne2 hgw z0 z1 z2 z3 g0 g1 g2 g3 t0 t1 t2 t3 y1
        have y0 := HQZ.out.cell 0 _ rfl
        have y1 := HQZ.out.cell 1 _ rfl
        have r0 := HRR.out.cell 0 _ rfl
        have r1 := HRR.out.cell 1 _ rfl
        have f0 := HRR.out.frozen 0
        have f1 := HRR.out.frozen 1
        obtain ⟨W9, hW9⟩ : ∃ W, W = (Z.setCell ⟨gr, 0, none⟩ (.slice (some ⟨gm, 0, none⟩) s.mem.length cm)).setCell ⟨gr, 1, none⟩ (.slice (some ⟨gv, 0, none⟩) s.ths.length cv) := ⟨_, rfl⟩
        have HR9 := Lib.hid (show BoxC W9 gr 39 #[(.slice (some ⟨gm, 0, none⟩) s.mem.length cm), .slice (some ⟨gv, 0, none⟩) s.ths.length cv] from by rw [hW9]; exact (HRR.out.set 0 _).set 1 _)
        have HO9 := Lib.hid (show OwnSt W3.heap.size W9 (.slice (some ⟨gm, 0, none⟩) s.mem.length cm) (.slice (some ⟨gv, 0, none⟩) s.ths.length cv) (stp P s (k : Int)) ps2 from by
          rw [hW9]
          exact (HO2.out.box HRR.out (by decide) (by decide) (by decide) 0 _).box (HRR.out.set 0 _) (by decide) (by decide) (by decide) 1 _)
        have HB9 := Lib.hid (show Below w.heap.size w W9 from by rw [hW9]; exact (HBZ.out.setCell (p := ⟨gr, 0, none⟩) HGR.out _).setCell (p := ⟨gr, 1, none⟩) HGR.out _)
        have HW9 := Lib.hid hW9
        clear hW9
        go_wp2_with fail
        rw [← HW9.out]
        clear r0 r1 f0 f1
        have r0 := HR9.out.cell 0 _ rfl
        have r1 := HR9.out.cell 1 _ rfl
        have hz := HCO.out
        refine bodyPost_ret (v := .tuple #[.agg #[(.slice (some ⟨gm, 0, none⟩) s.mem.length cm), .slice (some ⟨gv, 0, none⟩) s.ths.length cv], .bool true]) (by simp [results, Tryz.results52, go_sem, r0, r1, hz]) rfl ⟨_, _, _, by rw [HAE.out]; rfl, HO9.out.base HB3.out.size, HB9.out⟩
      by_cases o3 : op = 3
      · subst o3
        obtain ⟨ra, rb⟩ := HPX.out.reg rfl
        dsimp only at ra rb
        obtain ⟨r, rfl⟩ : ∃ r : Nat, rg = r := ⟨rg.toNat, by omega⟩
        have hr4 : r < xr.length := by rw [HXR.out]; omega
        obtain ⟨g, c, cu, e, hg, hbg, cell⟩ := own_nu (own_below (own_below HOE.out.1 HL2'.out) HLx'.out) hr4
        injection e with e1 e3 e2
        clear e3
        subst e1 e2
        obtain ⟨zr, hzr⟩ : ∃ z, z = xr[r] := ⟨_, rfl⟩
        rw [← hzr] at cell
        have HZR := Lib.hid (show nth xr (r : Int) = zr from by unfold nth; rw [hzr]; simp [hr4])
        clear hzr
        have HBG := Lib.hid hbg
        have HCL := Lib.hid cell
        have HG := Lib.hid (Nat.le_trans HBg.out hg)
        have HR4 := Lib.hid hr4
        have fg := HBG.out.frozen r
        clear hbg cell hg
        obtain ⟨la, lb⟩ := HPX.out.loc rfl
        dsimp only at la lb
        obtain ⟨l, rfl⟩ : ∃ l : Nat, lc = l := ⟨lc.toNat, by omega⟩
        have hlm : l < s.mem.length := by omega
        obtain ⟨gm, c, cum, e, hgm, hbm, cell⟩ := own_nu HOz.out.mem hlm
        injection e with e1 e3 e2
        clear e3
        subst e1 e2
        obtain ⟨zm, hzm⟩ : ∃ z, z = s.mem[l] := ⟨_, rfl⟩
        rw [← hzm] at cell
        have HZM := Lib.hid (show nth s.mem (l : Int) = zm from by unfold nth; rw [hzm]; simp [hlm])
        clear hzm
        have HBM := Lib.hid hbm
        have HCM := Lib.hid cell
        have HGM := Lib.hid (Nat.le_trans HBg.out hgm)
        have fm := HBM.out.frozen l
        clear hbm cell hgm la lb
        clear o1 o2
        have hgx : gx ≠ gm := HQx.out.unlike HBM.out (by decide)
        have hg9 : g9 ≠ gm := HQ9'.out.unlike HBM.out (by decide)
        have hgo : go ≠ gm := HQo.out.unlike HBM.out (by decide)
        have hgr : g ≠ gm := fun e => HOE.out.2.2 gm rfl (by rw [← e]; rfl)
        have q0 := HQ9'.out.cell 0 _ rfl
        have q1 := HQ9'.out.cell 1 _ rfl
        have q2 := HQ9'.out.cell 2 _ rfl
        have x1 := HQx.out.cell 1 _ rfl
        have y0 := HQo.out.cell 0 _ rfl
        have gg := HCL.out
        go_upto_region 15 with fail
        refine wp_region_held_drew (S := (fun w' => w'.cell? ⟨go, 0, none⟩ = some ((.slice (some ⟨gm, 0, none⟩) s.mem.length cm)) ∧ w'.cell? ⟨g9, 2, none⟩ = some (.int .i64 (l : Int)) ∧ w'.cell? ⟨gx, 1, none⟩ = some (.slice (some ⟨g, 0, none⟩) xr.length cr) ∧ w'.cell? ⟨g9, 1, none⟩ = some (.int .i64 (r : Int)) ∧ w'.cell? ⟨g, r, none⟩ = some (.int .i64 zr) ∧ True)) (by kernel_rfl) ⟨y0, q2, x1, q1, gg, trivial⟩ (fun hHeld => ?_)
        obtain ⟨Xa, hXa⟩ : ∃ W, W = X5.drew := ⟨_, rfl⟩
        have HXa := Lib.hid (show Below X5.heap.size X5 Xa from by rw [hXa]; exact below_drewN (Below.refl _ _) 1)
        rw [← hXa] at hHeld ⊢
        have mm : Xa.cell? ⟨gm, l, none⟩ = some (.int .i64 zm) := by rw [hXa]; exact HCM.out
        have fm : Xa.frozen? ⟨gm, l, none⟩ = false := by rw [hXa]; exact HBM.out.frozen l
        have x1' : Xa.cell? ⟨gx, 1, none⟩ = some (.slice (some ⟨g, 0, none⟩) xr.length cr) := by rw [hXa]; exact x1
        have y0' : Xa.cell? ⟨go, 0, none⟩ = some ((.slice (some ⟨gm, 0, none⟩) s.mem.length cm)) := by rw [hXa]; exact y0
        have q1' : Xa.cell? ⟨g9, 1, none⟩ = some (.int .i64 (r : Int)) := by rw [hXa]; exact q1
        have q2' : Xa.cell? ⟨g9, 2, none⟩ = some (.int .i64 (l : Int)) := by rw [hXa]; exact q2
        have gg' : Xa.cell? ⟨g, r, none⟩ = some (.int .i64 zr) := by rw [hXa]; exact gg
        clear hXa
        obtain ⟨Y, hY⟩ : ∃ W, W = Xa.setCell ⟨gm, l, none⟩ (.int .i64 zr) := ⟨_, rfl⟩
        have HSW := Lib.hid (show SwP W3.heap.size w gx go gr (.slice (some ⟨gm, 0, none⟩) s.mem.length cm) (.slice (some ⟨gv, 0, none⟩) s.ths.length cv) (.slice (some ⟨g, 0, none⟩) xr.length cr) (.slice Ab xb.length cb) at2 s k ⟨(n : Int), xr, xe, xb⟩ ⟨3, r, l, nn, tn⟩ Y from by rw [hY]; exact sw_m (HOz.out.below HXa.out) HPK.out HHH.out (HBM.out.below HXa.out HBM.out.lt) rfl (by show s.mem.set _ (nth xr (r : Int)) = _; rw [HZR.out]; rfl) (HQx.out.below HXa.out HQx.out.lt) (HQo.out.below HXa.out HQo.out.lt) (HRr.out.below HXa.out HRr.out.lt) (chain HL5a.out HXa.out) HGM.out)
        refine wtk 0 ?_ ?_ ?_
        rotate_left
        · intro w hSw; (try dsimp only at hSw); go_simp; (try with_reducible rfl)
        (try simp only [Act.put, pt8])
        refine wtk 1 ?_ ?_ ?_
        rotate_left
        · intro w hSw; (try dsimp only at hSw); go_simp; (try with_reducible rfl)
        (try simp only [Act.put, pt8])
        refine wtk 2 ?_ ?_ ?_
        rotate_left
        · intro w hSw; (try dsimp only at hSw); go_simp; (try with_reducible rfl)
        (try simp only [Act.put, pt8])
        refine wtk 3 ?_ ?_ ?_
        rotate_left
        · intro w hSw; (try dsimp only at hSw); go_simp; (try with_reducible rfl)
        (try simp only [Act.put, pt8])
        refine wtk 4 ?_ ?_ ?_
        rotate_left
        · intro w hSw; (try dsimp only at hSw); go_simp; (try with_reducible rfl)
        (try simp only [Act.put, pt8])
        refine wtk 5 ?_ ?_ ?_
        rotate_left
        · intro w hSw; (try dsimp only at hSw); go_simp; (try with_reducible rfl)
        (try simp only [Act.put, pt8])
        refine wtk 6 ?_ ?_ ?_
        rotate_left
        · intro w hSw; (try dsimp only at hSw); go_simp; (try with_reducible rfl)
        (try simp only [Act.put, pt8])
        refine wtk 7 ?_ ?_ ?_
        rotate_left
        · intro w hSw; (try dsimp only at hSw); go_simp; (try with_reducible rfl)
        (try simp only [Act.put, pt8])
        refine wtk 8 ?_ ?_ ?_
        rotate_left
        · intro w hSw; (try dsimp only at hSw); go_simp; (try with_reducible rfl)
        (try simp only [Act.put, pt8])
        refine wtk 9 ?_ ?_ ?_
        rotate_left
        · intro w hSw; (try dsimp only at hSw); go_simp; (try with_reducible rfl)
        (try simp only [Act.put, pt8])
        refine wtk 10 ?_ ?_ ?_
        rotate_left
        · intro w hSw; (try dsimp only at hSw); go_simp; (try with_reducible rfl)
        (try simp only [Act.put, pt8])
        refine wpAnyH_ready (rs := [11]) (by kernel_rfl) (by simp) ?_
        refine AllReadyH.cons rfl (fun K hK => ?_) AllReadyH.nil
        go_simp
        refine hK.out _ _ ⟨st_ne hgo y0', st_ne hg9 q2', st_ne hgx x1', st_ne hg9 q1', st_ne hgr gg', trivial⟩ (fun hHeld => ?_)
        clear hK K
        (try simp only [Act.put, pt8])
        refine wpAnyH_done (by kernel_rfl) ?_ _
        clear hHeld
        go_upto_region 24 with fail
        rw [← hY]
        clear hY q0 q1 q2 x1 y0 mm gg fg fm x1' y0' q1' q2' gg'
        obtain ⟨ps1, hk1, ho1, b1, b2, b3, hB8⟩ := HSW.out
        have HO1 := Lib.hid ho1
        have HK1 := Lib.hid hk1
        have HB1 := Lib.hid b1
        have HB2 := Lib.hid b2
        have HB3' := Lib.hid b3
        have HB8 := Lib.hid hB8
        obtain ⟨gv', cv', cur', hev, hgv', hbv', z0, z1, z2, z3⟩ := HO1.out.row (List.getElem?_eq_some_iff.1 HK1.out).1
        injection hev with hev1 hev3 hev2
        clear hev3
        subst hev2
        injection hev1 with hev1
        injection hev1 with hev1
        subst hev1
        have HBV' := Lib.hid hbv'
        have HGV' := Lib.hid hgv'
        have g0 := HBV'.out.frozen (k * 4)
        have g1 := HBV'.out.frozen (k * 4 + 1)
        have g2 := HBV'.out.frozen (k * 4 + 2)
        have g3 := HBV'.out.frozen (k * 4 + 3)
        have t0 := HB1.out.cell 0 _ rfl
        have t1 := HB1.out.cell 1 _ rfl
        have t2 := HB1.out.cell 2 _ rfl
        have t3 := HB1.out.cell 3 _ rfl
        have y1 := HB2.out.cell 1 _ rfl
        clear ho1 hk1 b1 b2 b3 hB8 hbv' hgv'
        go_upto_region 25 with fail
        obtain ⟨ps2, ho2⟩ := HO1.out.put (b := ⟨at2, stR ⟨3, (r : Int), (l : Int), nn, tn⟩ s.mem xr, stE ⟨3, (r : Int), (l : Int), nn, tn⟩ xr xe, xb⟩) HK1.out rfl rfl
        obtain ⟨Z, hZ⟩ : ∃ W, W = (((Y.setCell ⟨gv, k * 4, none⟩ (.int .i64 at2)).setCell ⟨gv, k * 4 + 1, none⟩ (.slice (some ⟨g, 0, none⟩) xr.length cr)).setCell ⟨gv, k * 4 + 2, none⟩ (.bool (stE ⟨3, (r : Int), (l : Int), nn, tn⟩ xr xe))).setCell ⟨gv, k * 4 + 3, none⟩ (.slice Ab xb.length cb) := ⟨_, rfl⟩
        have HO2 := Lib.hid (show OwnSt W3.heap.size Z (.slice (some ⟨gm, 0, none⟩) s.mem.length cm) (.slice (some ⟨gv, 0, none⟩) s.ths.length cv) (stp P s (k : Int)) ps2 from by rw [hZ]; exact ho2.cast (by rw [HSE.out, HSE2.out]))
        have hne1 := HB3'.out.unlike HBV'.out (by decide)
        have HRR := Lib.hid (show BoxC Z gr 39 #[.slice none 0 0, .slice none 0 0] from by rw [hZ]; exact (((HB3'.out.other hne1 _ _).other hne1 _ _).other hne1 _ _).other hne1 _ _)
        have hne2 := HB2.out.unlike HBV'.out (by decide)
        have HQZ := Lib.hid (show BoxC Z go 39 #[(.slice (some ⟨gm, 0, none⟩) s.mem.length cm), .slice (some ⟨gv, 0, none⟩) s.ths.length cv] from by rw [hZ]; exact (((HB2.out.other hne2 _ _).other hne2 _ _).other hne2 _ _).other hne2 _ _)
        have hgw := Nat.le_trans HBg.out HGV'.out
        have HBZ := Lib.hid (show Below w.heap.size w Z from by rw [hZ]; exact (((HB8.out.setCell (p := ⟨gv, k * 4, none⟩) hgw _).setCell (p := ⟨gv, k * 4 + 1, none⟩) hgw _).setCell (p := ⟨gv, k * 4 + 2, none⟩) hgw _).setCell (p := ⟨gv, k * 4 + 3, none⟩) hgw _)
        rw [← hZ]
        clear hZ ho2 hne1 hne2 hgw z0 z1 z2 z3 g0 g1 g2 g3 t0 t1 t2 t3 y1
        have y0 := HQZ.out.cell 0 _ rfl
        have y1 := HQZ.out.cell 1 _ rfl
        have r0 := HRR.out.cell 0 _ rfl
        have r1 := HRR.out.cell 1 _ rfl
        have f0 := HRR.out.frozen 0
        have f1 := HRR.out.frozen 1
        obtain ⟨W9, hW9⟩ : ∃ W, W = (Z.setCell ⟨gr, 0, none⟩ (.slice (some ⟨gm, 0, none⟩) s.mem.length cm)).setCell ⟨gr, 1, none⟩ (.slice (some ⟨gv, 0, none⟩) s.ths.length cv) := ⟨_, rfl⟩
        have HR9 := Lib.hid (show BoxC W9 gr 39 #[(.slice (some ⟨gm, 0, none⟩) s.mem.length cm), .slice (some ⟨gv, 0, none⟩) s.ths.length cv] from by rw [hW9]; exact (HRR.out.set 0 _).set 1 _)
        have HO9 := Lib.hid (show OwnSt W3.heap.size W9 (.slice (some ⟨gm, 0, none⟩) s.mem.length cm) (.slice (some ⟨gv, 0, none⟩) s.ths.length cv) (stp P s (k : Int)) ps2 from by
          rw [hW9]
          exact (HO2.out.box HRR.out (by decide) (by decide) (by decide) 0 _).box (HRR.out.set 0 _) (by decide) (by decide) (by decide) 1 _)
        have HB9 := Lib.hid (show Below w.heap.size w W9 from by rw [hW9]; exact (HBZ.out.setCell (p := ⟨gr, 0, none⟩) HGR.out _).setCell (p := ⟨gr, 1, none⟩) HGR.out _)
        have HW9 := Lib.hid hW9
        clear hW9
        go_wp2_with fail
        rw [← HW9.out]
        clear r0 r1 f0 f1
        have r0 := HR9.out.cell 0 _ rfl
        have r1 := HR9.out.cell 1 _ rfl
        have hz := HCO.out
        refine bodyPost_ret (v := .tuple #[.agg #[(.slice (some ⟨gm, 0, none⟩) s.mem.length cm), .slice (some ⟨gv, 0, none⟩) s.ths.length cv], .bool true]) (by simp [results, Tryz.results52, go_sem, r0, r1, hz]) rfl ⟨_, _, _, by rw [HAE.out]; rfl, HO9.out.base HB3.out.size, HB9.out⟩
      by_cases o4 : op = 4
      · subst o4
        obtain ⟨la, lb⟩ := HPX.out.loc rfl
        dsimp only at la lb
        obtain ⟨l, rfl⟩ : ∃ l : Nat, lc = l := ⟨lc.toNat, by omega⟩
        have hlm : l < s.mem.length := by omega
        obtain ⟨gm, c, cum, e, hgm, hbm, cell⟩ := own_nu HOz.out.mem hlm
        injection e with e1 e3 e2
        clear e3
        subst e1 e2
        obtain ⟨zm, hzm⟩ : ∃ z, z = s.mem[l] := ⟨_, rfl⟩
        rw [← hzm] at cell
        have HZM := Lib.hid (show nth s.mem (l : Int) = zm from by unfold nth; rw [hzm]; simp [hlm])
        clear hzm
        have HBM := Lib.hid hbm
        have HCM := Lib.hid cell
        have HGM := Lib.hid (Nat.le_trans HBg.out hgm)
        have fm := HBM.out.frozen l
        clear hbm cell hgm la lb
        clear o1 o2 o3
        obtain ⟨Y, hY⟩ : ∃ W, W = X5.setCell ⟨gm, l, none⟩ (.int .i64 nn) := ⟨_, rfl⟩
        have HSW := Lib.hid (show SwP W3.heap.size w gx go gr (.slice (some ⟨gm, 0, none⟩) s.mem.length cm) (.slice (some ⟨gv, 0, none⟩) s.ths.length cv) (.slice Ar xr.length cr) (.slice Ab xb.length cb) at2 s k ⟨(n : Int), xr, xe, xb⟩ ⟨4, rg, l, nn, tn⟩ Y from by rw [hY]; exact sw_m HOz.out HPK.out HHH.out HBM.out rfl rfl HQx.out HQo.out HRr.out HL5a.out HGM.out)
        have q0 := HQ9'.out.cell 0 _ rfl
        have q2 := HQ9'.out.cell 2 _ rfl
        have q3 := HQ9'.out.cell 3 _ rfl
        have y0 := HQo.out.cell 0 _ rfl
        have mm := HCM.out
        go_upto_region 24 with fail
        rw [← hY]
        clear hY q0 q2 q3 y0 mm fm
        obtain ⟨ps1, hk1, ho1, b1, b2, b3, hB8⟩ := HSW.out
        have HO1 := Lib.hid ho1
        have HK1 := Lib.hid hk1
        have HB1 := Lib.hid b1
        have HB2 := Lib.hid b2
        have HB3' := Lib.hid b3
        have HB8 := Lib.hid hB8
        obtain ⟨gv', cv', cur', hev, hgv', hbv', z0, z1, z2, z3⟩ := HO1.out.row (List.getElem?_eq_some_iff.1 HK1.out).1
        injection hev with hev1 hev3 hev2
        clear hev3
        subst hev2
        injection hev1 with hev1
        injection hev1 with hev1
        subst hev1
        have HBV' := Lib.hid hbv'
        have HGV' := Lib.hid hgv'
        have g0 := HBV'.out.frozen (k * 4)
        have g1 := HBV'.out.frozen (k * 4 + 1)
        have g2 := HBV'.out.frozen (k * 4 + 2)
        have g3 := HBV'.out.frozen (k * 4 + 3)
        have t0 := HB1.out.cell 0 _ rfl
        have t1 := HB1.out.cell 1 _ rfl
        have t2 := HB1.out.cell 2 _ rfl
        have t3 := HB1.out.cell 3 _ rfl
        have y1 := HB2.out.cell 1 _ rfl
        clear ho1 hk1 b1 b2 b3 hB8 hbv' hgv'
        go_upto_region 25 with fail
        obtain ⟨ps2, ho2⟩ := HO1.out.put (b := ⟨at2, stR ⟨4, rg, (l : Int), nn, tn⟩ s.mem xr, stE ⟨4, rg, (l : Int), nn, tn⟩ xr xe, xb⟩) HK1.out rfl rfl
        obtain ⟨Z, hZ⟩ : ∃ W, W = (((Y.setCell ⟨gv, k * 4, none⟩ (.int .i64 at2)).setCell ⟨gv, k * 4 + 1, none⟩ (.slice Ar xr.length cr)).setCell ⟨gv, k * 4 + 2, none⟩ (.bool (stE ⟨4, rg, (l : Int), nn, tn⟩ xr xe))).setCell ⟨gv, k * 4 + 3, none⟩ (.slice Ab xb.length cb) := ⟨_, rfl⟩
        have HO2 := Lib.hid (show OwnSt W3.heap.size Z (.slice (some ⟨gm, 0, none⟩) s.mem.length cm) (.slice (some ⟨gv, 0, none⟩) s.ths.length cv) (stp P s (k : Int)) ps2 from by rw [hZ]; exact ho2.cast (by rw [HSE.out, HSE2.out]))
        have hne1 := HB3'.out.unlike HBV'.out (by decide)
        have HRR := Lib.hid (show BoxC Z gr 39 #[.slice none 0 0, .slice none 0 0] from by rw [hZ]; exact (((HB3'.out.other hne1 _ _).other hne1 _ _).other hne1 _ _).other hne1 _ _)
        have hne2 := HB2.out.unlike HBV'.out (by decide)
        have HQZ := Lib.hid (show BoxC Z go 39 #[(.slice (some ⟨gm, 0, none⟩) s.mem.length cm), .slice (some ⟨gv, 0, none⟩) s.ths.length cv] from by rw [hZ]; exact (((HB2.out.other hne2 _ _).other hne2 _ _).other hne2 _ _).other hne2 _ _)
        have hgw := Nat.le_trans HBg.out HGV'.out
        have HBZ := Lib.hid (show Below w.heap.size w Z from by rw [hZ]; exact (((HB8.out.setCell (p := ⟨gv, k * 4, none⟩) hgw _).setCell (p := ⟨gv, k * 4 + 1, none⟩) hgw _).setCell (p := ⟨gv, k * 4 + 2, none⟩) hgw _).setCell (p := ⟨gv, k * 4 + 3, none⟩) hgw _)
        rw [← hZ]
        clear hZ ho2 hne1 hne2 hgw z0 z1 z2 z3 g0 g1 g2 g3 t0 t1 t2 t3 y1
        have y0 := HQZ.out.cell 0 _ rfl
        have y1 := HQZ.out.cell 1 _ rfl
        have r0 := HRR.out.cell 0 _ rfl
        have r1 := HRR.out.cell 1 _ rfl
        have f0 := HRR.out.frozen 0
        have f1 := HRR.out.frozen 1
        obtain ⟨W9, hW9⟩ : ∃ W, W = (Z.setCell ⟨gr, 0, none⟩ (.slice (some ⟨gm, 0, none⟩) s.mem.length cm)).setCell ⟨gr, 1, none⟩ (.slice (some ⟨gv, 0, none⟩) s.ths.length cv) := ⟨_, rfl⟩
        have HR9 := Lib.hid (show BoxC W9 gr 39 #[(.slice (some ⟨gm, 0, none⟩) s.mem.length cm), .slice (some ⟨gv, 0, none⟩) s.ths.length cv] from by rw [hW9]; exact (HRR.out.set 0 _).set 1 _)
        have HO9 := Lib.hid (show OwnSt W3.heap.size W9 (.slice (some ⟨gm, 0, none⟩) s.mem.length cm) (.slice (some ⟨gv, 0, none⟩) s.ths.length cv) (stp P s (k : Int)) ps2 from by
          rw [hW9]
          exact (HO2.out.box HRR.out (by decide) (by decide) (by decide) 0 _).box (HRR.out.set 0 _) (by decide) (by decide) (by decide) 1 _)
        have HB9 := Lib.hid (show Below w.heap.size w W9 from by rw [hW9]; exact (HBZ.out.setCell (p := ⟨gr, 0, none⟩) HGR.out _).setCell (p := ⟨gr, 1, none⟩) HGR.out _)
        have HW9 := Lib.hid hW9
        clear hW9
        go_wp2_with fail
        rw [← HW9.out]
        clear r0 r1 f0 f1
        have r0 := HR9.out.cell 0 _ rfl
        have r1 := HR9.out.cell 1 _ rfl
        have hz := HCO.out
        refine bodyPost_ret (v := .tuple #[.agg #[(.slice (some ⟨gm, 0, none⟩) s.mem.length cm), .slice (some ⟨gv, 0, none⟩) s.ths.length cv], .bool true]) (by simp [results, Tryz.results52, go_sem, r0, r1, hz]) rfl ⟨_, _, _, by rw [HAE.out]; rfl, HO9.out.base HB3.out.size, HB9.out⟩
      by_cases o5 : op = 5
      · subst o5
        obtain ⟨ra, rb⟩ := HPX.out.reg rfl
        dsimp only at ra rb
        obtain ⟨r, rfl⟩ : ∃ r : Nat, rg = r := ⟨rg.toNat, by omega⟩
        have hr4 : r < xr.length := by rw [HXR.out]; omega
        obtain ⟨g, c, cu, e, hg, hbg, cell⟩ := own_nu (own_below (own_below HOE.out.1 HL2'.out) HLx'.out) hr4
        injection e with e1 e3 e2
        clear e3
        subst e1 e2
        obtain ⟨zr, hzr⟩ : ∃ z, z = xr[r] := ⟨_, rfl⟩
        rw [← hzr] at cell
        have HZR := Lib.hid (show nth xr (r : Int) = zr from by unfold nth; rw [hzr]; simp [hr4])
        clear hzr
        have HBG := Lib.hid hbg
        have HCL := Lib.hid cell
        have HG := Lib.hid (Nat.le_trans HBg.out hg)
        have HR4 := Lib.hid hr4
        have fg := HBG.out.frozen r
        clear hbg cell hg
        obtain ⟨la, lb⟩ := HPX.out.loc rfl
        dsimp only at la lb
        obtain ⟨l, rfl⟩ : ∃ l : Nat, lc = l := ⟨lc.toNat, by omega⟩
        have hlm : l < s.mem.length := by omega
        obtain ⟨gm, c, cum, e, hgm, hbm, cell⟩ := own_nu HOz.out.mem hlm
        injection e with e1 e3 e2
        clear e3
        subst e1 e2
        obtain ⟨zm, hzm⟩ : ∃ z, z = s.mem[l] := ⟨_, rfl⟩
        rw [← hzm] at cell
        have HZM := Lib.hid (show nth s.mem (l : Int) = zm from by unfold nth; rw [hzm]; simp [hlm])
        clear hzm
        have HBM := Lib.hid hbm
        have HCM := Lib.hid cell
        have HGM := Lib.hid (Nat.le_trans HBg.out hgm)
        have fm := HBM.out.frozen l
        clear hbm cell hgm la lb
        clear o1 o2 o3 o4
        have hgx : gx ≠ gm := HQx.out.unlike HBM.out (by decide)
        have hg9 : g9 ≠ gm := HQ9'.out.unlike HBM.out (by decide)
        have hgo : go ≠ gm := HQo.out.unlike HBM.out (by decide)
        have hgr : g ≠ gm := fun e => HOE.out.2.2 gm rfl (by rw [← e]; rfl)
        have q0 := HQ9'.out.cell 0 _ rfl
        have q1 := HQ9'.out.cell 1 _ rfl
        have q2 := HQ9'.out.cell 2 _ rfl
        have x1 := HQx.out.cell 1 _ rfl
        have y0 := HQo.out.cell 0 _ rfl
        have gg := HCL.out
        have mm := HCM.out
        go_upto_region 20 with fail
        refine wp_region_held_drew (S := (fun w' => w'.cell? ⟨go, 0, none⟩ = some ((.slice (some ⟨gm, 0, none⟩) s.mem.length cm)) ∧ w'.cell? ⟨g9, 2, none⟩ = some (.int .i64 (l : Int)) ∧ w'.cell? ⟨gx, 1, none⟩ = some (.slice (some ⟨g, 0, none⟩) xr.length cr) ∧ w'.cell? ⟨g9, 1, none⟩ = some (.int .i64 (r : Int)) ∧ w'.cell? ⟨g, r, none⟩ = some (.int .i64 zr) ∧ True)) (by kernel_rfl) ⟨y0, q2, x1, q1, gg, trivial⟩ (fun hHeld => ?_)
        obtain ⟨Xa, hXa⟩ : ∃ W, W = X5.drew := ⟨_, rfl⟩
        have HXa := Lib.hid (show Below X5.heap.size X5 Xa from by rw [hXa]; exact below_drewN (Below.refl _ _) 1)
        rw [← hXa] at hHeld ⊢
        have mm : Xa.cell? ⟨gm, l, none⟩ = some (.int .i64 zm) := by rw [hXa]; exact HCM.out
        have fm : Xa.frozen? ⟨gm, l, none⟩ = false := by rw [hXa]; exact HBM.out.frozen l
        have x1' : Xa.cell? ⟨gx, 1, none⟩ = some (.slice (some ⟨g, 0, none⟩) xr.length cr) := by rw [hXa]; exact x1
        have y0' : Xa.cell? ⟨go, 0, none⟩ = some ((.slice (some ⟨gm, 0, none⟩) s.mem.length cm)) := by rw [hXa]; exact y0
        have q1' : Xa.cell? ⟨g9, 1, none⟩ = some (.int .i64 (r : Int)) := by rw [hXa]; exact q1
        have q2' : Xa.cell? ⟨g9, 2, none⟩ = some (.int .i64 (l : Int)) := by rw [hXa]; exact q2
        have gg' : Xa.cell? ⟨g, r, none⟩ = some (.int .i64 zr) := by rw [hXa]; exact gg
        have fgX : Xa.frozen? ⟨g, r, none⟩ = false := by rw [hXa]; exact HBG.out.frozen r
        clear hXa
        obtain ⟨Y1, hY1⟩ : ∃ W, W = Xa.setCell ⟨gm, l, none⟩ (.int .i64 zr) := ⟨_, rfl⟩
        obtain ⟨Y, hY⟩ : ∃ W, W = Y1.setCell ⟨g, r, none⟩ (.int .i64 zm) := ⟨_, rfl⟩
        have HSW := Lib.hid (show SwP W3.heap.size w gx go gr (.slice (some ⟨gm, 0, none⟩) s.mem.length cm) (.slice (some ⟨gv, 0, none⟩) s.ths.length cv) (.slice (some ⟨g, 0, none⟩) xr.length cr) (.slice Ab xb.length cb) at2 s k ⟨(n : Int), xr, xe, xb⟩ ⟨5, r, l, nn, tn⟩ Y from by rw [hY, hY1]; exact sw_x (HOz.out.below HXa.out) HPK.out (HBM.out.below HXa.out HBM.out.lt) (HBG.out.below HXa.out HBG.out.lt) (by show xr.set _ (nth s.mem (l : Int)) = _; rw [HZM.out]; rfl) (by show s.mem.set _ (nth xr (r : Int)) = _; rw [HZR.out]; rfl) (HQx.out.below HXa.out HQx.out.lt) (HQo.out.below HXa.out HQo.out.lt) (HRr.out.below HXa.out HRr.out.lt) (chain HL5a.out HXa.out) HG.out HGM.out)
        have x1s : Y1.cell? ⟨gx, 1, none⟩ = some (.slice (some ⟨g, 0, none⟩) xr.length cr) := by rw [hY1]; exact st_ne hgx x1'
        have q1s : Y1.cell? ⟨g9, 1, none⟩ = some (.int .i64 (r : Int)) := by rw [hY1]; exact st_ne hg9 q1'
        have ggs : Y1.cell? ⟨g, r, none⟩ = some (.int .i64 zr) := by rw [hY1]; exact st_ne hgr gg'
        have fgs : Y1.frozen? ⟨g, r, none⟩ = false := by rw [hY1]; exact ((HBG.out.below HXa.out HBG.out.lt).other hgr _ _).frozen r
        refine wtk 0 ?_ ?_ ?_
        rotate_left
        · intro w hSw; (try dsimp only at hSw); go_simp; (try with_reducible rfl)
        (try simp only [Act.put, pt8])
        refine wtk 1 ?_ ?_ ?_
        rotate_left
        · intro w hSw; (try dsimp only at hSw); go_simp; (try with_reducible rfl)
        (try simp only [Act.put, pt8])
        refine wtk 2 ?_ ?_ ?_
        rotate_left
        · intro w hSw; (try dsimp only at hSw); go_simp; (try with_reducible rfl)
        (try simp only [Act.put, pt8])
        refine wtk 3 ?_ ?_ ?_
        rotate_left
        · intro w hSw; (try dsimp only at hSw); go_simp; (try with_reducible rfl)
        (try simp only [Act.put, pt8])
        refine wtk 4 ?_ ?_ ?_
        rotate_left
        · intro w hSw; (try dsimp only at hSw); go_simp; (try with_reducible rfl)
        (try simp only [Act.put, pt8])
        refine wtk 5 ?_ ?_ ?_
        rotate_left
        · intro w hSw; (try dsimp only at hSw); go_simp; (try with_reducible rfl)
        (try simp only [Act.put, pt8])
        refine wtk 6 ?_ ?_ ?_
        rotate_left
        · intro w hSw; (try dsimp only at hSw); go_simp; (try with_reducible rfl)
        (try simp only [Act.put, pt8])
        refine wtk 7 ?_ ?_ ?_
        rotate_left
        · intro w hSw; (try dsimp only at hSw); go_simp; (try with_reducible rfl)
        (try simp only [Act.put, pt8])
        refine wtk 8 ?_ ?_ ?_
        rotate_left
        · intro w hSw; (try dsimp only at hSw); go_simp; (try with_reducible rfl)
        (try simp only [Act.put, pt8])
        refine wtk 9 ?_ ?_ ?_
        rotate_left
        · intro w hSw; (try dsimp only at hSw); go_simp; (try with_reducible rfl)
        (try simp only [Act.put, pt8])
        refine wtk 10 ?_ ?_ ?_
        rotate_left
        · intro w hSw; (try dsimp only at hSw); go_simp; (try with_reducible rfl)
        (try simp only [Act.put, pt8])
        refine wpAnyH_ready (rs := [11]) (by kernel_rfl) (by simp) ?_
        refine AllReadyH.cons rfl (fun K hK => ?_) AllReadyH.nil
        go_simp
        refine hK.out _ _ ⟨st_ne hgo y0', st_ne hg9 q2', st_ne hgx x1', st_ne hg9 q1', st_ne hgr gg', trivial⟩ (fun hHeld => ?_)
        clear hK K
        (try simp only [Act.put, pt8])
        refine wpAnyH_done (by kernel_rfl) ?_ _
        clear hHeld
        go_upto_region 21 with fail
        rw [← hY1]
        clear hY1 q0 q1 q2 x1 y0 mm gg fg fm x1' y0' q1' q2' gg' fgX
        go_upto_region 24 with fail
        rw [← hY]
        clear hY x1s q1s ggs fgs
        obtain ⟨ps1, hk1, ho1, b1, b2, b3, hB8⟩ := HSW.out
        have HO1 := Lib.hid ho1
        have HK1 := Lib.hid hk1
        have HB1 := Lib.hid b1
        have HB2 := Lib.hid b2
        have HB3' := Lib.hid b3
        have HB8 := Lib.hid hB8
        obtain ⟨gv', cv', cur', hev, hgv', hbv', z0, z1, z2, z3⟩ := HO1.out.row (List.getElem?_eq_some_iff.1 HK1.out).1
        injection hev with hev1 hev3 hev2
        clear hev3
        subst hev2
        injection hev1 with hev1
        injection hev1 with hev1
        subst hev1
        have HBV' := Lib.hid hbv'
        have HGV' := Lib.hid hgv'
        have g0 := HBV'.out.frozen (k * 4)
        have g1 := HBV'.out.frozen (k * 4 + 1)
        have g2 := HBV'.out.frozen (k * 4 + 2)
        have g3 := HBV'.out.frozen (k * 4 + 3)
        have t0 := HB1.out.cell 0 _ rfl
        have t1 := HB1.out.cell 1 _ rfl
        have t2 := HB1.out.cell 2 _ rfl
        have t3 := HB1.out.cell 3 _ rfl
        have y1 := HB2.out.cell 1 _ rfl
        clear ho1 hk1 b1 b2 b3 hB8 hbv' hgv'
        go_upto_region 25 with fail
        obtain ⟨ps2, ho2⟩ := HO1.out.put (b := ⟨at2, stR ⟨5, (r : Int), (l : Int), nn, tn⟩ s.mem xr, stE ⟨5, (r : Int), (l : Int), nn, tn⟩ xr xe, xb⟩) HK1.out rfl rfl
        obtain ⟨Z, hZ⟩ : ∃ W, W = (((Y.setCell ⟨gv, k * 4, none⟩ (.int .i64 at2)).setCell ⟨gv, k * 4 + 1, none⟩ (.slice (some ⟨g, 0, none⟩) xr.length cr)).setCell ⟨gv, k * 4 + 2, none⟩ (.bool (stE ⟨5, (r : Int), (l : Int), nn, tn⟩ xr xe))).setCell ⟨gv, k * 4 + 3, none⟩ (.slice Ab xb.length cb) := ⟨_, rfl⟩
        have HO2 := Lib.hid (show OwnSt W3.heap.size Z (.slice (some ⟨gm, 0, none⟩) s.mem.length cm) (.slice (some ⟨gv, 0, none⟩) s.ths.length cv) (stp P s (k : Int)) ps2 from by rw [hZ]; exact ho2.cast (by rw [HSE.out, HSE2.out]))
        have hne1 := HB3'.out.unlike HBV'.out (by decide)
        have HRR := Lib.hid (show BoxC Z gr 39 #[.slice none 0 0, .slice none 0 0] from by rw [hZ]; exact (((HB3'.out.other hne1 _ _).other hne1 _ _).other hne1 _ _).other hne1 _ _)
        have hne2 := HB2.out.unlike HBV'.out (by decide)
        have HQZ := Lib.hid (show BoxC Z go 39 #[(.slice (some ⟨gm, 0, none⟩) s.mem.length cm), .slice (some ⟨gv, 0, none⟩) s.ths.length cv] from by rw [hZ]; exact (((HB2.out.other hne2 _ _).other hne2 _ _).other hne2 _ _).other hne2 _ _)
        have hgw := Nat.le_trans HBg.out HGV'.out
        have HBZ := Lib.hid (show Below w.heap.size w Z from by rw [hZ]; exact (((HB8.out.setCell (p := ⟨gv, k * 4, none⟩) hgw _).setCell (p := ⟨gv, k * 4 + 1, none⟩) hgw _).setCell (p := ⟨gv, k * 4 + 2, none⟩) hgw _).setCell (p := ⟨gv, k * 4 + 3, none⟩) hgw _)
        rw [← hZ]
        clear hZ ho2 hne1 hne2 hgw z0 z1 z2 z3 g0 g1 g2 g3 t0 t1 t2 t3 y1
        have y0 := HQZ.out.cell 0 _ rfl
        have y1 := HQZ.out.cell 1 _ rfl
        have r0 := HRR.out.cell 0 _ rfl
        have r1 := HRR.out.cell 1 _ rfl
        have f0 := HRR.out.frozen 0
        have f1 := HRR.out.frozen 1
        obtain ⟨W9, hW9⟩ : ∃ W, W = (Z.setCell ⟨gr, 0, none⟩ (.slice (some ⟨gm, 0, none⟩) s.mem.length cm)).setCell ⟨gr, 1, none⟩ (.slice (some ⟨gv, 0, none⟩) s.ths.length cv) := ⟨_, rfl⟩
        have HR9 := Lib.hid (show BoxC W9 gr 39 #[(.slice (some ⟨gm, 0, none⟩) s.mem.length cm), .slice (some ⟨gv, 0, none⟩) s.ths.length cv] from by rw [hW9]; exact (HRR.out.set 0 _).set 1 _)
        have HO9 := Lib.hid (show OwnSt W3.heap.size W9 (.slice (some ⟨gm, 0, none⟩) s.mem.length cm) (.slice (some ⟨gv, 0, none⟩) s.ths.length cv) (stp P s (k : Int)) ps2 from by
          rw [hW9]
          exact (HO2.out.box HRR.out (by decide) (by decide) (by decide) 0 _).box (HRR.out.set 0 _) (by decide) (by decide) (by decide) 1 _)
        have HB9 := Lib.hid (show Below w.heap.size w W9 from by rw [hW9]; exact (HBZ.out.setCell (p := ⟨gr, 0, none⟩) HGR.out _).setCell (p := ⟨gr, 1, none⟩) HGR.out _)
        have HW9 := Lib.hid hW9
        clear hW9
        go_wp2_with fail
        rw [← HW9.out]
        clear r0 r1 f0 f1
        have r0 := HR9.out.cell 0 _ rfl
        have r1 := HR9.out.cell 1 _ rfl
        have hz := HCO.out
        refine bodyPost_ret (v := .tuple #[.agg #[(.slice (some ⟨gm, 0, none⟩) s.mem.length cm), .slice (some ⟨gv, 0, none⟩) s.ths.length cv], .bool true]) (by simp [results, Tryz.results52, go_sem, r0, r1, hz]) rfl ⟨_, _, _, by rw [HAE.out]; rfl, HO9.out.base HB3.out.size, HB9.out⟩
      by_cases o7 : op = 7
      · subst o7
        obtain ⟨ra, rb⟩ := HPX.out.reg rfl
        dsimp only at ra rb
        obtain ⟨r, rfl⟩ : ∃ r : Nat, rg = r := ⟨rg.toNat, by omega⟩
        have hr4 : r < xr.length := by rw [HXR.out]; omega
        obtain ⟨g, c, cu, e, hg, hbg, cell⟩ := own_nu (own_below (own_below HOE.out.1 HL2'.out) HLx'.out) hr4
        injection e with e1 e3 e2
        clear e3
        subst e1 e2
        obtain ⟨zr, hzr⟩ : ∃ z, z = xr[r] := ⟨_, rfl⟩
        rw [← hzr] at cell
        have HZR := Lib.hid (show nth xr (r : Int) = zr from by unfold nth; rw [hzr]; simp [hr4])
        clear hzr
        have HBG := Lib.hid hbg
        have HCL := Lib.hid cell
        have HG := Lib.hid (Nat.le_trans HBg.out hg)
        have HR4 := Lib.hid hr4
        have fg := HBG.out.frozen r
        clear hbg cell hg
        clear o1 o2 o3 o4 o5
        have hg9 : g9 ≠ gx := (HQx.out.unlike HQ9'.out (by decide)).symm
        have hgr : g ≠ gx := (HQx.out.unlike HBG.out (by decide)).symm
        have q0 := HQ9'.out.cell 0 _ rfl
        have q1 := HQ9'.out.cell 1 _ rfl
        have q3 := HQ9'.out.cell 3 _ rfl
        have x1 := HQx.out.cell 1 _ rfl
        have gg := HCL.out
        have x2 := HQx.out.cell 2 _ rfl
        go_upto_region 23 with fail
        refine wp_region_held_drew (S := (fun w' => w'.cell? ⟨gx, 1, none⟩ = some (.slice (some ⟨g, 0, none⟩) xr.length cr) ∧ w'.cell? ⟨g9, 1, none⟩ = some (.int .i64 (r : Int)) ∧ w'.cell? ⟨g, r, none⟩ = some (.int .i64 zr) ∧ w'.cell? ⟨g9, 3, none⟩ = some (.int .i64 nn) ∧ True)) (by kernel_rfl) ⟨x1, q1, gg, q3, trivial⟩ (fun hHeld => ?_)
        obtain ⟨Xa, hXa⟩ : ∃ W, W = X5.drew := ⟨_, rfl⟩
        have HXa := Lib.hid (show Below X5.heap.size X5 Xa from by rw [hXa]; exact below_drewN (Below.refl _ _) 1)
        rw [← hXa] at hHeld ⊢
        have x2' : Xa.cell? ⟨gx, 2, none⟩ = some (.bool xe) := by rw [hXa]; exact x2
        have f2 : Xa.frozen? ⟨gx, 2, none⟩ = false := by rw [hXa]; exact HQx.out.frozen 2
        have x1' : Xa.cell? ⟨gx, 1, none⟩ = some (.slice (some ⟨g, 0, none⟩) xr.length cr) := by rw [hXa]; exact x1
        have q1' : Xa.cell? ⟨g9, 1, none⟩ = some (.int .i64 (r : Int)) := by rw [hXa]; exact q1
        have q3' : Xa.cell? ⟨g9, 3, none⟩ = some (.int .i64 nn) := by rw [hXa]; exact q3
        have gg' : Xa.cell? ⟨g, r, none⟩ = some (.int .i64 zr) := by rw [hXa]; exact gg
        clear hXa
        obtain ⟨Y, hY⟩ : ∃ W, W = Xa.setCell ⟨gx, 2, none⟩ (.bool (zr == nn)) := ⟨_, rfl⟩
        have HLY := Lib.hid (show Below X2.heap.size X2 Y from by rw [hY]; exact (chain HLX2.out HXa.out).setCell (p := ⟨gx, 2, none⟩) HGX.out _)
        have HLY5 := Lib.hid (show Below w.heap.size w Y from by rw [hY]; exact (chain HL5a.out HXa.out).setCell (p := ⟨gx, 2, none⟩) HGW.out _)
        have hngo : go ≠ gx := (HQx.out.unlike HQo.out (by decide)).symm
        have hngr : gr ≠ gx := (HQx.out.unlike HRr.out (by decide)).symm
        have HEV := Lib.hid (show stE (⟨7, (r : Int), lc, nn, tn⟩ : St) xr xe = (zr == nn) from by unfold stE; rw [if_pos rfl, HZR.out]; by_cases c : zr = nn <;> simp [c])
        have HSW := Lib.hid (show SwP W3.heap.size w gx go gr (.slice Am s.mem.length cm) (.slice (some ⟨gv, 0, none⟩) s.ths.length cv) (.slice (some ⟨g, 0, none⟩) xr.length cr) (.slice Ab xb.length cb) at2 s k ⟨(n : Int), xr, xe, xb⟩ ⟨7, r, lc, nn, tn⟩ Y from by rw [hY]; exact sw_keep (by rw [← hY]; exact HOS2.out.below HLY.out) HPK.out HHH.out rfl rfl (by rw [HEV.out]; exact (HQx.out.below HXa.out HQx.out.lt).set 2 _) ((HQo.out.below HXa.out HQo.out.lt).other hngo _ _) ((HRr.out.below HXa.out HRr.out.lt).other hngr _ _) (by rw [← hY]; exact HLY5.out))
        refine wtk 0 ?_ ?_ ?_
        rotate_left
        · intro w hSw; (try dsimp only at hSw); go_simp; (try with_reducible rfl)
        (try simp only [Act.put, pt8])
        refine wtk 1 ?_ ?_ ?_
        rotate_left
        · intro w hSw; (try dsimp only at hSw); go_simp; (try with_reducible rfl)
        (try simp only [Act.put, pt8])
        refine wtk 2 ?_ ?_ ?_
        rotate_left
        · intro w hSw; (try dsimp only at hSw); go_simp; (try with_reducible rfl)
        (try simp only [Act.put, pt8])
        refine wtk 3 ?_ ?_ ?_
        rotate_left
        · intro w hSw; (try dsimp only at hSw); go_simp; (try with_reducible rfl)
        (try simp only [Act.put, pt8])
        refine wtk 4 ?_ ?_ ?_
        rotate_left
        · intro w hSw; (try dsimp only at hSw); go_simp; (try with_reducible rfl)
        (try simp only [Act.put, pt8])
        refine wtk 5 ?_ ?_ ?_
        rotate_left
        · intro w hSw; (try dsimp only at hSw); go_simp; (try with_reducible rfl)
        (try simp only [Act.put, pt8])
        refine wtk 6 ?_ ?_ ?_
        rotate_left
        · intro w hSw; (try dsimp only at hSw); go_simp; (try with_reducible rfl)
        (try simp only [Act.put, pt8])
        refine wtk 7 ?_ ?_ ?_
        rotate_left
        · intro w hSw; (try dsimp only at hSw); go_simp; (try with_reducible rfl)
        (try simp only [Act.put, pt8])
        refine wtk 8 ?_ ?_ ?_
        rotate_left
        · intro w hSw; (try dsimp only at hSw); go_simp; (try with_reducible rfl)
        (try simp only [Act.put, pt8])
        refine wtk 9 ?_ ?_ ?_
        rotate_left
        · intro w hSw; (try dsimp only at hSw); go_simp; (try with_reducible rfl)
        (try simp only [Act.put, pt8])
        refine wpAnyH_ready (rs := [10]) (by kernel_rfl) (by simp) ?_
        refine AllReadyH.cons rfl (fun K hK => ?_) AllReadyH.nil
        go_simp
        refine hK.out _ _ ⟨st_oth (by decide) x1', st_ne hg9 q1', st_ne hgr gg', st_ne hg9 q3', trivial⟩ (fun hHeld => ?_)
        clear hK K
        (try simp only [Act.put, pt8])
        refine wpAnyH_done (by kernel_rfl) ?_ _
        clear hHeld
        go_upto_region 24 with fail
        rw [← hY]
        clear hY q0 q1 q3 x1 gg fg x1' q1' q3' gg' x2 x2' f2
        obtain ⟨ps1, hk1, ho1, b1, b2, b3, hB8⟩ := HSW.out
        have HO1 := Lib.hid ho1
        have HK1 := Lib.hid hk1
        have HB1 := Lib.hid b1
        have HB2 := Lib.hid b2
        have HB3' := Lib.hid b3
        have HB8 := Lib.hid hB8
        obtain ⟨gv', cv', cur', hev, hgv', hbv', z0, z1, z2, z3⟩ := HO1.out.row (List.getElem?_eq_some_iff.1 HK1.out).1
        injection hev with hev1 hev3 hev2
        clear hev3
        subst hev2
        injection hev1 with hev1
        injection hev1 with hev1
        subst hev1
        have HBV' := Lib.hid hbv'
        have HGV' := Lib.hid hgv'
        have g0 := HBV'.out.frozen (k * 4)
        have g1 := HBV'.out.frozen (k * 4 + 1)
        have g2 := HBV'.out.frozen (k * 4 + 2)
        have g3 := HBV'.out.frozen (k * 4 + 3)
        have t0 := HB1.out.cell 0 _ rfl
        have t1 := HB1.out.cell 1 _ rfl
        have t2 := HB1.out.cell 2 _ rfl
        have t3 := HB1.out.cell 3 _ rfl
        have y1 := HB2.out.cell 1 _ rfl
        clear ho1 hk1 b1 b2 b3 hB8 hbv' hgv'
        go_upto_region 25 with fail
        obtain ⟨ps2, ho2⟩ := HO1.out.put (b := ⟨at2, stR ⟨7, (r : Int), lc, nn, tn⟩ s.mem xr, stE ⟨7, (r : Int), lc, nn, tn⟩ xr xe, xb⟩) HK1.out rfl rfl
        obtain ⟨Z, hZ⟩ : ∃ W, W = (((Y.setCell ⟨gv, k * 4, none⟩ (.int .i64 at2)).setCell ⟨gv, k * 4 + 1, none⟩ (.slice (some ⟨g, 0, none⟩) xr.length cr)).setCell ⟨gv, k * 4 + 2, none⟩ (.bool (stE ⟨7, (r : Int), lc, nn, tn⟩ xr xe))).setCell ⟨gv, k * 4 + 3, none⟩ (.slice Ab xb.length cb) := ⟨_, rfl⟩
        have HO2 := Lib.hid (show OwnSt W3.heap.size Z (.slice Am s.mem.length cm) (.slice (some ⟨gv, 0, none⟩) s.ths.length cv) (stp P s (k : Int)) ps2 from by rw [hZ]; exact ho2.cast (by rw [HSE.out, HSE2.out]))
        have hne1 := HB3'.out.unlike HBV'.out (by decide)
        have HRR := Lib.hid (show BoxC Z gr 39 #[.slice none 0 0, .slice none 0 0] from by rw [hZ]; exact (((HB3'.out.other hne1 _ _).other hne1 _ _).other hne1 _ _).other hne1 _ _)
        have hne2 := HB2.out.unlike HBV'.out (by decide)
        have HQZ := Lib.hid (show BoxC Z go 39 #[(.slice Am s.mem.length cm), .slice (some ⟨gv, 0, none⟩) s.ths.length cv] from by rw [hZ]; exact (((HB2.out.other hne2 _ _).other hne2 _ _).other hne2 _ _).other hne2 _ _)
        have hgw := Nat.le_trans HBg.out HGV'.out
        have HBZ := Lib.hid (show Below w.heap.size w Z from by rw [hZ]; exact (((HB8.out.setCell (p := ⟨gv, k * 4, none⟩) hgw _).setCell (p := ⟨gv, k * 4 + 1, none⟩) hgw _).setCell (p := ⟨gv, k * 4 + 2, none⟩) hgw _).setCell (p := ⟨gv, k * 4 + 3, none⟩) hgw _)
        rw [← hZ]
        clear hZ ho2 hne1 hne2 hgw z0 z1 z2 z3 g0 g1 g2 g3 t0 t1 t2 t3 y1
        have y0 := HQZ.out.cell 0 _ rfl
        have y1 := HQZ.out.cell 1 _ rfl
        have r0 := HRR.out.cell 0 _ rfl
        have r1 := HRR.out.cell 1 _ rfl
        have f0 := HRR.out.frozen 0
        have f1 := HRR.out.frozen 1
        obtain ⟨W9, hW9⟩ : ∃ W, W = (Z.setCell ⟨gr, 0, none⟩ (.slice Am s.mem.length cm)).setCell ⟨gr, 1, none⟩ (.slice (some ⟨gv, 0, none⟩) s.ths.length cv) := ⟨_, rfl⟩
        have HR9 := Lib.hid (show BoxC W9 gr 39 #[(.slice Am s.mem.length cm), .slice (some ⟨gv, 0, none⟩) s.ths.length cv] from by rw [hW9]; exact (HRR.out.set 0 _).set 1 _)
        have HO9 := Lib.hid (show OwnSt W3.heap.size W9 (.slice Am s.mem.length cm) (.slice (some ⟨gv, 0, none⟩) s.ths.length cv) (stp P s (k : Int)) ps2 from by
          rw [hW9]
          exact (HO2.out.box HRR.out (by decide) (by decide) (by decide) 0 _).box (HRR.out.set 0 _) (by decide) (by decide) (by decide) 1 _)
        have HB9 := Lib.hid (show Below w.heap.size w W9 from by rw [hW9]; exact (HBZ.out.setCell (p := ⟨gr, 0, none⟩) HGR.out _).setCell (p := ⟨gr, 1, none⟩) HGR.out _)
        have HW9 := Lib.hid hW9
        clear hW9
        go_wp2_with fail
        rw [← HW9.out]
        clear r0 r1 f0 f1
        have r0 := HR9.out.cell 0 _ rfl
        have r1 := HR9.out.cell 1 _ rfl
        have hz := HCO.out
        refine bodyPost_ret (v := .tuple #[.agg #[(.slice Am s.mem.length cm), .slice (some ⟨gv, 0, none⟩) s.ths.length cv], .bool true]) (by simp [results, Tryz.results52, go_sem, r0, r1, hz]) rfl ⟨_, _, _, by rw [HAE.out]; rfl, HO9.out.base HB3.out.size, HB9.out⟩
      have b1 : (op == 1) = false := beq_eq_false_iff_ne.2 o1
      have b2 : (op == 2) = false := beq_eq_false_iff_ne.2 o2
      have b3 : (op == 3) = false := beq_eq_false_iff_ne.2 o3
      have b4 : (op == 4) = false := beq_eq_false_iff_ne.2 o4
      have b5 : (op == 5) = false := beq_eq_false_iff_ne.2 o5
      have b7 : (op == 7) = false := beq_eq_false_iff_ne.2 o7
      obtain ⟨Y, hY⟩ : ∃ W, W = X5 := ⟨_, rfl⟩
      have HSW := Lib.hid (show SwP W3.heap.size w gx go gr (.slice Am s.mem.length cm) (.slice (some ⟨gv, 0, none⟩) s.ths.length cv) (.slice Ar xr.length cr) (.slice Ab xb.length cb) at2 s k ⟨(n : Int), xr, xe, xb⟩ ⟨op, rg, lc, nn, tn⟩ Y from by rw [hY]; exact sw_keep HOz.out HPK.out HHH.out (by unfold stR; rw [if_neg o1, if_neg o2, if_neg o5]) (by unfold ScM.stM; rw [if_neg o3, if_neg o4, if_neg o5]) (by unfold stE; rw [if_neg o7]; exact HQx.out) HQo.out HRr.out HL5a.out)
      have q0 := HQ9'.out.cell 0 _ rfl
      clear o1 o2 o3 o4 o5 o7
      go_upto_region 24 with fail
      rw [← hY]
      clear hY q0 b1 b2 b3 b4 b5 b7
      obtain ⟨ps1, hk1, ho1, b1, b2, b3, hB8⟩ := HSW.out
      have HO1 := Lib.hid ho1
      have HK1 := Lib.hid hk1
      have HB1 := Lib.hid b1
      have HB2 := Lib.hid b2
      have HB3' := Lib.hid b3
      have HB8 := Lib.hid hB8
      obtain ⟨gv', cv', cur', hev, hgv', hbv', z0, z1, z2, z3⟩ := HO1.out.row (List.getElem?_eq_some_iff.1 HK1.out).1
      injection hev with hev1 hev3 hev2
      clear hev3
      subst hev2
      injection hev1 with hev1
      injection hev1 with hev1
      subst hev1
      have HBV' := Lib.hid hbv'
      have HGV' := Lib.hid hgv'
      have g0 := HBV'.out.frozen (k * 4)
      have g1 := HBV'.out.frozen (k * 4 + 1)
      have g2 := HBV'.out.frozen (k * 4 + 2)
      have g3 := HBV'.out.frozen (k * 4 + 3)
      have t0 := HB1.out.cell 0 _ rfl
      have t1 := HB1.out.cell 1 _ rfl
      have t2 := HB1.out.cell 2 _ rfl
      have t3 := HB1.out.cell 3 _ rfl
      have y1 := HB2.out.cell 1 _ rfl
      clear ho1 hk1 b1 b2 b3 hB8 hbv' hgv'
      go_upto_region 25 with fail
      obtain ⟨ps2, ho2⟩ := HO1.out.put (b := ⟨at2, stR ⟨op, rg, lc, nn, tn⟩ s.mem xr, stE ⟨op, rg, lc, nn, tn⟩ xr xe, xb⟩) HK1.out rfl rfl
      obtain ⟨Z, hZ⟩ : ∃ W, W = (((Y.setCell ⟨gv, k * 4, none⟩ (.int .i64 at2)).setCell ⟨gv, k * 4 + 1, none⟩ (.slice Ar xr.length cr)).setCell ⟨gv, k * 4 + 2, none⟩ (.bool (stE ⟨op, rg, lc, nn, tn⟩ xr xe))).setCell ⟨gv, k * 4 + 3, none⟩ (.slice Ab xb.length cb) := ⟨_, rfl⟩
      have HO2 := Lib.hid (show OwnSt W3.heap.size Z (.slice Am s.mem.length cm) (.slice (some ⟨gv, 0, none⟩) s.ths.length cv) (stp P s (k : Int)) ps2 from by rw [hZ]; exact ho2.cast (by rw [HSE.out, HSE2.out]))
      have hne1 := HB3'.out.unlike HBV'.out (by decide)
      have HRR := Lib.hid (show BoxC Z gr 39 #[.slice none 0 0, .slice none 0 0] from by rw [hZ]; exact (((HB3'.out.other hne1 _ _).other hne1 _ _).other hne1 _ _).other hne1 _ _)
      have hne2 := HB2.out.unlike HBV'.out (by decide)
      have HQZ := Lib.hid (show BoxC Z go 39 #[(.slice Am s.mem.length cm), .slice (some ⟨gv, 0, none⟩) s.ths.length cv] from by rw [hZ]; exact (((HB2.out.other hne2 _ _).other hne2 _ _).other hne2 _ _).other hne2 _ _)
      have hgw := Nat.le_trans HBg.out HGV'.out
      have HBZ := Lib.hid (show Below w.heap.size w Z from by rw [hZ]; exact (((HB8.out.setCell (p := ⟨gv, k * 4, none⟩) hgw _).setCell (p := ⟨gv, k * 4 + 1, none⟩) hgw _).setCell (p := ⟨gv, k * 4 + 2, none⟩) hgw _).setCell (p := ⟨gv, k * 4 + 3, none⟩) hgw _)
      rw [← hZ]
      clear hZ ho2 hne1 hne2 hgw z0 z1 z2 z3 g0 g1 g2 g3 t0 t1 t2 t3 y1
      have y0 := HQZ.out.cell 0 _ rfl
      have y1 := HQZ.out.cell 1 _ rfl
      have r0 := HRR.out.cell 0 _ rfl
      have r1 := HRR.out.cell 1 _ rfl
      have f0 := HRR.out.frozen 0
      have f1 := HRR.out.frozen 1
      obtain ⟨W9, hW9⟩ : ∃ W, W = (Z.setCell ⟨gr, 0, none⟩ (.slice Am s.mem.length cm)).setCell ⟨gr, 1, none⟩ (.slice (some ⟨gv, 0, none⟩) s.ths.length cv) := ⟨_, rfl⟩
      have HR9 := Lib.hid (show BoxC W9 gr 39 #[(.slice Am s.mem.length cm), .slice (some ⟨gv, 0, none⟩) s.ths.length cv] from by rw [hW9]; exact (HRR.out.set 0 _).set 1 _)
      have HO9 := Lib.hid (show OwnSt W3.heap.size W9 (.slice Am s.mem.length cm) (.slice (some ⟨gv, 0, none⟩) s.ths.length cv) (stp P s (k : Int)) ps2 from by
        rw [hW9]
        exact (HO2.out.box HRR.out (by decide) (by decide) (by decide) 0 _).box (HRR.out.set 0 _) (by decide) (by decide) (by decide) 1 _)
      have HB9 := Lib.hid (show Below w.heap.size w W9 from by rw [hW9]; exact (HBZ.out.setCell (p := ⟨gr, 0, none⟩) HGR.out _).setCell (p := ⟨gr, 1, none⟩) HGR.out _)
      have HW9 := Lib.hid hW9
      clear hW9
      go_wp2_with fail
      rw [← HW9.out]
      clear r0 r1 f0 f1
      have r0 := HR9.out.cell 0 _ rfl
      have r1 := HR9.out.cell 1 _ rfl
      have hz := HCO.out
      refine bodyPost_ret (v := .tuple #[.agg #[(.slice Am s.mem.length cm), .slice (some ⟨gv, 0, none⟩) s.ths.length cv], .bool true]) (by simp [results, Tryz.results52, go_sem, r0, r1, hz]) rfl ⟨_, _, _, by rw [HAE.out]; rfl, HO9.out.base HB3.out.size, HB9.out⟩
end Go.Proofs.YtlpjgaeelnlipaaGreat
