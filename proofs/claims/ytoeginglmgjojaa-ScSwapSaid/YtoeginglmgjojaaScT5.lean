/-
  LAYER 10: the walk of ScSwap.
-/
import Derived.Test.YtoeginglmgjojaaScHd
import Derived.Test.YtoeginglmgjojaaScT5L
import Derived.Test.YtoeginglmgjojaaScSt
import Derived.Test.YtoeginglmgjojaaScBg
import Derived.Deep.RegionHeld3
import Derived.Deep.DeepCutAuto
namespace Go.Proofs.Ytoeginglmgjojaa
open Go.RowKit
set_option linter.unusedVariables false
set_option linter.unusedSimpArgs false
open CodM (St Pg rightP hReg hLoc)
open BfM (Wr plc)
open ScM

set_option maxHeartbeats 8000000 in
set_option maxRecDepth 100000 in
theorem scswap_any {B : Nat} {v u : Value} {P : Pg} {s : Sta} (a b : Nat) (ha256 : a < 256) (hb256 : b < 256) (w : World) (hv : PgZ B w v P) (hu : StaV B w u s) (hBB : B ≤ w.heap.size) :
    Calls Try.prog 7 #[v, u, .int .u8 a, .int .u8 b] w fun e w' => e = .returned (.bool true) ∧ Below w.heap.size w w' := by
  obtain ⟨pi, pt, rfl, hpm, hpi⟩ := hv
  obtain ⟨um, ut, rfl, hum⟩ := hu
  have HPM := Lib.hid hpm
  have HPI := Lib.hid hpi
  have HUM := Lib.hid hum
  obtain ⟨⟨P0, d0, rfl, -⟩, ⟨P1, d1, rfl, l1, l2, l3⟩⟩ := hpm
  obtain ⟨⟨A7, c7, rfl, m1, m2, m0, m3⟩, ⟨A1, c1, rfl, k1, k2, k0, k3⟩⟩ := hum
  clear hpi
  unfold maxLen at l2 m2 k2
  have HL3 := Lib.hid l3
  have HM3 := Lib.hid m3
  have HK3 := Lib.hid k3
  clear l3 m3 k3 m0 k0
  obtain ⟨W2, hW2⟩ : ∃ W, W = ((w.alloc (.cells #[.slice P0 P.init.length d0, .slice P1 P.ths.length d1] 25)).alloc (.cells #[.slice A7 s.mem.length c7, .slice A1 s.ths.length c1] 28)) := ⟨_, rfl⟩
  obtain ⟨gp, hgp⟩ : ∃ g, g = w.heap.size := ⟨_, rfl⟩
  obtain ⟨gs, hgs⟩ : ∃ g, g = w.heap.size + 1 := ⟨_, rfl⟩
  have HX := Lib.hid (show BoxC W2 gp 25 #[.slice P0 P.init.length d0, .slice P1 P.ths.length d1] from by rw [hW2, hgp]; exact (BoxC.new w _ _).alloc _)
  have HY := Lib.hid (show BoxC W2 gs 28 #[.slice A7 s.mem.length c7, .slice A1 s.ths.length c1] from by rw [hW2, hgs]; have := BoxC.new (w.alloc (.cells #[.slice P0 P.init.length d0, .slice P1 P.ths.length d1] 25)) 28 #[.slice A7 s.mem.length c7, .slice A1 s.ths.length c1]; rw [World.size_alloc] at this; exact this)
  have HB2 := Lib.hid (show Below w.heap.size w W2 from by rw [hW2]; exact below_al (below_al (Below.refl _ _) _) _)
  have HPZ := Lib.hid (fun W (hW : Below W2.heap.size W2 W) => show PgZ W.heap.size W (.agg #[.slice P0 P.init.length d0, .slice P1 P.ths.length d1]) P from ⟨_, _, rfl, (HPM.out.below ((chain HB2.out hW).mono hBB)).more (Nat.le_trans hBB (chain HB2.out hW).size), (HPI.out.below ((chain HB2.out hW).mono hBB)).more (Nat.le_trans hBB (chain HB2.out hW).size)⟩)
  have HSV := Lib.hid (fun W (hW : Below W2.heap.size W2 W) => show StaV W.heap.size W (.agg #[.slice A7 s.mem.length c7, .slice A1 s.ths.length c1]) s from ⟨_, _, rfl, (HUM.out.below ((chain HB2.out hW).mono hBB)).more (Nat.le_trans hBB (chain HB2.out hW).size)⟩)
  have HBW := Lib.hid (Nat.le_trans hBB HB2.out.size)
  have HL := Lib.hid (Below.refl W2.heap.size W2)
  go_enter Try.func7, Try.ntmps7
  go_upto_region 1 with fail
  rw [← hW2]
  (try rw [← hgs])
  (try rw [← hgp])
  clear hW2 hgs hgp
  go_wp2_with fail
  refine (head_any _).mono ?_
  rintro e V1 ⟨rfl, hb⟩
  have HST := Lib.hid hb
  replace HL := Lib.hid (chain HL.out hb)
  clear hb 
  have x0 := (HX.out.below HL.out HX.out.lt).cell 0 _ rfl
  have x1 := (HX.out.below HL.out HX.out.lt).cell 1 _ rfl
  go_wp2_with fail
  refine (cgreat_any _ (HPZ.out _ HL.out).v (Nat.le_refl _)).mono ?_
  rintro e V2 ⟨gb, rfl, hg, hb⟩
  have HST := Lib.hid hb
  replace HL := Lib.hid (chain HL.out hb)
  clear hb x0 x1
  cases gb
  case true =>
    go_wp2
    go_ret
    exact ⟨rfl, chain HB2.out HL.out⟩
  have HSM := Lib.hid (hg rfl).1
  have HRP := Lib.hid (hg rfl).2
  clear hg
  have y0 := (HY.out.below HL.out HY.out.lt).cell 0 _ rfl
  have y1 := (HY.out.below HL.out HY.out.lt).cell 1 _ rfl
  go_wp2_with fail
  refine (wide_any _ (HSV.out _ HL.out) (Nat.le_refl _)).mono ?_
  rintro e V3 ⟨gb, rfl, hg, hb⟩
  have HST := Lib.hid hb
  replace HL := Lib.hid (chain HL.out hb)
  clear hb y0 y1
  cases gb
  case true =>
    go_wp2
    go_ret
    exact ⟨rfl, chain HB2.out HL.out⟩
  have HWS := Lib.hid (hg rfl)
  clear hg
  have x0 := (HX.out.below HL.out HX.out.lt).cell 0 _ rfl
  have x1 := (HX.out.below HL.out HX.out.lt).cell 1 _ rfl
  have y0 := (HY.out.below HL.out HY.out.lt).cell 0 _ rfl
  have y1 := (HY.out.below HL.out HY.out.lt).cell 1 _ rfl
  go_wp2_with fail
  refine (rright_any _ (HPZ.out _ HL.out).v (HSV.out _ HL.out) (Nat.le_refl _)).mono ?_
  rintro e V4 ⟨d, rfl, hd, hb⟩
  have HST := Lib.hid hb
  replace HL := Lib.hid (chain HL.out hb)
  clear hb x0 x1 y0 y1
  cases d
  case false =>
    go_wp2
    go_ret
    exact ⟨rfl, chain HB2.out HL.out⟩
  have HOK := Lib.hid (hd.1 rfl)
  clear hd
  have hHT := HOK.out.ths
  by_cases h2 : s.ths.length < 2
  case pos =>
    have y1 := (HY.out.below HL.out HY.out.lt).cell 1 _ rfl
    go_wp2
    go_ret
    exact ⟨rfl, chain HB2.out HL.out⟩
  obtain ⟨k, hk⟩ : ∃ k, k = a % s.ths.length := ⟨_, rfl⟩
  obtain ⟨j, hj⟩ : ∃ j, j = b % s.ths.length := ⟨_, rfl⟩
  have hks : k < s.ths.length := by rw [hk]; exact Nat.mod_lt _ (by omega)
  have hjs : j < s.ths.length := by rw [hj]; exact Nat.mod_lt _ (by omega)
  have hka : (a : Int).tmod (s.ths.length : Int) = (k : Int) := by rw [hk]; rfl
  have hja : (b : Int).tmod (s.ths.length : Int) = (j : Int) := by rw [hj]; rfl
  have hz : ¬ ((s.ths.length : Int) = 0) := by omega
  have hzn : ¬ (s.ths.length = 0) := by omega
  have hz2 : ((s.ths.length : Int) == 0) = false := by rw [beq_eq_false_iff_ne]; omega
  have hab : (a : Int) ≤ 255 := by omega
  have hbb : (b : Int) ≤ 255 := by omega
  have HHT := Lib.hid hHT
  clear hk hj hHT
  have y1 := (HY.out.below HL.out HY.out.lt).cell 1 _ rfl
  go_upto_region 6 with fail
  clear y1 hka hja hz hzn hz2 h2
  have x0 := (HX.out.below HL.out HX.out.lt).cell 0 _ rfl
  have x1 := (HX.out.below HL.out HX.out.lt).cell 1 _ rfl
  have y0 := (HY.out.below HL.out HY.out.lt).cell 0 _ rfl
  have y1 := (HY.out.below HL.out HY.out.lt).cell 1 _ rfl
  go_wp2_with fail
  refine (rat_any (k : Int) _ (HPZ.out _ HL.out).v (HSV.out _ HL.out) (Nat.le_refl _) HOK.out).mono ?_
  rintro e V5 ⟨rfl, hb⟩
  have HST := Lib.hid hb
  replace HL := Lib.hid (chain HL.out hb)
  clear hb x0 x1 y0 y1
  obtain ⟨x1, q1, hx1, hq1⟩ := atV_of P s (k : Int)
  rw [hx1]
  have HA1 := Lib.hid hq1
  clear hx1 hq1
  obtain ⟨op1, rg1, lc1, nn1, tn1⟩ := x1
  unfold stV
  dsimp only
  go_upto_region 7 with fail
  obtain ⟨X1, hX⟩ : ∃ W, W = V5.alloc (.cells #[.int .i64 op1, .int .i64 rg1, .int .i64 lc1, .int .i64 nn1, .int .i64 tn1] 39) := ⟨_, rfl⟩
  obtain ⟨g1, hg⟩ : ∃ g, g = V5.heap.size := ⟨_, rfl⟩
  have HSA1 := Lib.hid HST.out
  replace HST := Lib.hid (show Below V5.heap.size V5 X1 from by rw [hX]; exact below_al (Below.refl _ _) _)
  have HQ1 := Lib.hid (show BoxC X1 g1 39 #[.int .i64 op1, .int .i64 rg1, .int .i64 lc1, .int .i64 nn1, .int .i64 tn1] from by rw [hX, hg]; exact BoxC.new V5 _ _)
  rw [← hX]
  (try rw [← hg])
  clear hX hg
  replace HL := Lib.hid (chain HL.out HST.out)
  have x0 := (HX.out.below HL.out HX.out.lt).cell 0 _ rfl
  have x1 := (HX.out.below HL.out HX.out.lt).cell 1 _ rfl
  have y0 := (HY.out.below HL.out HY.out.lt).cell 0 _ rfl
  have y1 := (HY.out.below HL.out HY.out.lt).cell 1 _ rfl
  go_wp2_with fail
  refine (rat_any (j : Int) _ (HPZ.out _ HL.out).v (HSV.out _ HL.out) (Nat.le_refl _) HOK.out).mono ?_
  rintro e V6 ⟨rfl, hb⟩
  have HST := Lib.hid hb
  replace HL := Lib.hid (chain HL.out hb)
  clear hb x0 x1 y0 y1
  obtain ⟨x2, q2, hx2, hq2⟩ := atV_of P s (j : Int)
  rw [hx2]
  have HA2 := Lib.hid hq2
  clear hx2 hq2
  obtain ⟨op2, rg2, lc2, nn2, tn2⟩ := x2
  unfold stV
  dsimp only
  go_upto_region 8 with fail
  obtain ⟨X2, hX⟩ : ∃ W, W = V6.alloc (.cells #[.int .i64 op2, .int .i64 rg2, .int .i64 lc2, .int .i64 nn2, .int .i64 tn2] 39) := ⟨_, rfl⟩
  obtain ⟨g2, hg⟩ : ∃ g, g = V6.heap.size := ⟨_, rfl⟩
  have HSA2 := Lib.hid HST.out
  replace HST := Lib.hid (show Below V6.heap.size V6 X2 from by rw [hX]; exact below_al (Below.refl _ _) _)
  have HQ2 := Lib.hid (show BoxC X2 g2 39 #[.int .i64 op2, .int .i64 rg2, .int .i64 lc2, .int .i64 nn2, .int .i64 tn2] from by rw [hX, hg]; exact BoxC.new V6 _ _)
  rw [← hX]
  (try rw [← hg])
  clear hX hg
  replace HL := Lib.hid (chain HL.out HST.out)
  replace HQ1 := Lib.hid (HQ1.out.below (chain HSA2.out HST.out) HQ1.out.lt)
  obtain ⟨m1, hm1⟩ : ∃ m : Bool, m = (decide (2 ≤ op1) && decide (op1 ≤ 5)) := ⟨_, rfl⟩
  have HM1 := Lib.hid hm1
  clear hm1
  go_upto_region 8 with fail
  go_cut [16] (fun s16 wx => s16 = .bool m1 ∧ wx = X2)
  case first =>
    have q0 := HQ1.out.cell 0 _ rfl
    by_cases p1 : 2 ≤ op1
    · by_cases p2 : op1 ≤ 5
      · obtain rfl : m1 = true := by rw [HM1.out]; simp [p1, p2]
        go_wp2_with fail
        go_meet
        exact ⟨rfl, rfl⟩
      · obtain rfl : m1 = false := by rw [HM1.out]; simp [p2]
        go_wp2_with fail
        go_meet
        exact ⟨rfl, rfl⟩
    · obtain rfl : m1 = false := by rw [HM1.out]; simp [p1]
      go_wp2_with fail
      go_meet
      exact ⟨rfl, rfl⟩
  case rest =>
  obtain ⟨rfl, hwc⟩ := hcut
  have hwc := hwc.symm
  subst hwc
  obtain ⟨m2, hm2⟩ : ∃ m : Bool, m = (decide (2 ≤ op2) && decide (op2 ≤ 5)) := ⟨_, rfl⟩
  have HM2 := Lib.hid hm2
  clear hm2
  go_upto_region 9 with fail
  go_cut [17] (fun s17 wx => s17 = .bool m2 ∧ wx = X2)
  case first =>
    have q0 := HQ2.out.cell 0 _ rfl
    by_cases p1 : 2 ≤ op2
    · by_cases p2 : op2 ≤ 5
      · obtain rfl : m2 = true := by rw [HM2.out]; simp [p1, p2]
        go_wp2_with fail
        go_meet
        exact ⟨rfl, rfl⟩
      · obtain rfl : m2 = false := by rw [HM2.out]; simp [p2]
        go_wp2_with fail
        go_meet
        exact ⟨rfl, rfl⟩
    · obtain rfl : m2 = false := by rw [HM2.out]; simp [p1]
      go_wp2_with fail
      go_meet
      exact ⟨rfl, rfl⟩
  case rest =>
  obtain ⟨rfl, hwc⟩ := hcut
  have hwc := hwc.symm
  subst hwc
  go_upto_region 10 with fail
  obtain ⟨cc, hcc⟩ : ∃ c : Bool, c = (decide (k = j) || !q1 || !q2 || (m1 && m2 && decide (lc1 = lc2))) := ⟨_, rfl⟩
  have HCC := Lib.hid hcc
  clear hcc
  go_cut [111] (fun s111 wx => s111 = .bool cc ∧ wx = X2)
  case first =>
    have l1 := HQ1.out.cell 2 _ rfl
    have l2 := HQ2.out.cell 2 _ rfl
    by_cases e : k = j
    · have he : ((k : Int) == (j : Int)) = true := by rw [beq_iff_eq, e]
      obtain rfl : cc = true := by rw [HCC.out]; simp [e]
      clear e
      go_wp2_with fail
      go_meet
      exact ⟨rfl, rfl⟩
    have he : ((k : Int) == (j : Int)) = false := by rw [beq_eq_false_iff_ne]; omega
    have HE := Lib.hid e
    clear e
    cases q1
    · obtain rfl : cc = true := by rw [HCC.out]; simp
      go_wp2_with fail
      go_meet
      exact ⟨rfl, rfl⟩
    cases q2
    · obtain rfl : cc = true := by rw [HCC.out]; simp
      go_wp2_with fail
      go_meet
      exact ⟨rfl, rfl⟩
    cases m1
    · obtain rfl : cc = false := by rw [HCC.out]; simp [HE.out]
      go_wp2_with fail
      go_meet
      exact ⟨rfl, rfl⟩
    cases m2
    · obtain rfl : cc = false := by rw [HCC.out]; simp [HE.out]
      go_wp2_with fail
      go_meet
      exact ⟨rfl, rfl⟩
    by_cases el : lc1 = lc2
    · have hl : (lc1 == lc2) = true := by rw [beq_iff_eq]; exact el
      obtain rfl : cc = true := by rw [HCC.out]; simp [el]
      clear el
      go_wp2_with fail
      go_meet
      exact ⟨rfl, rfl⟩
    · have hl : (lc1 == lc2) = false := by rw [beq_eq_false_iff_ne]; exact el
      obtain rfl : cc = false := by rw [HCC.out]; simp [HE.out, el]
      clear el
      go_wp2_with fail
      go_meet
      exact ⟨rfl, rfl⟩
  case rest =>
  obtain ⟨rfl, hwc⟩ := hcut
  have hwc := hwc.symm
  subst hwc
  cases cc
  case true =>
    go_wp2
    go_ret
    exact ⟨rfl, chain HB2.out HL.out⟩
  have hcf := HCC.out.symm
  simp only [Bool.or_eq_false_iff, decide_eq_false_iff_not, Bool.not_eq_false'] at hcf
  obtain ⟨⟨⟨hkj, hq1⟩, hq2⟩, hmm⟩ := hcf
  have HX1 := Lib.hid (HA1.out hq1)
  have HX2 := Lib.hid (HA2.out hq2)
  have HKJ := Lib.hid hkj
  have HAP := Lib.hid (show Apart ⟨op1, rg1, lc1, nn1, tn1⟩ ⟨op2, rg2, lc2, nn2, tn2⟩ from fun p1 p2 p3 p4 e => by
    dsimp only at p1 p2 p3 p4 e
    have e1 : m1 = true := by rw [HM1.out]; simp [p1, p2]
    have e2 : m2 = true := by rw [HM2.out]; simp [p3, p4]
    obtain ⟨k', ek, a1, a2, a3, ax⟩ := atS_some HX1.out
    obtain ⟨j', ej, b1, b2, b3, bx⟩ := atS_some HX2.out
    have r1 := (stp_of HRP.out a2 a3).loc (by rw [← ax]; show hLoc op1 = true; unfold CodM.hLoc; simp; omega)
    have r2 := (stp_of HRP.out b2 b3).loc (by rw [← bx]; show hLoc op2 = true; unfold CodM.hLoc; simp; omega)
    rw [← ax] at r1
    rw [← bx] at r2
    dsimp only at r1 r2
    have el : lc1 = lc2 := by omega
    rw [e1, e2] at hmm
    simp [el] at hmm)
  have HSW := Lib.hid (swap_steps HX1.out HX2.out HKJ.out HAP.out)
  have HSW2 := Lib.hid (swap_steps HX2.out HX1.out (Ne.symm HKJ.out) (fun p1 p2 p3 p4 e => HAP.out p3 p4 p1 p2 e.symm))
  clear hkj hq1 hq2 hmm HM1 HM2 HCC
  have x0 := (HX.out.below HL.out HX.out.lt).cell 0 _ rfl
  have x1 := (HX.out.below HL.out HX.out.lt).cell 1 _ rfl
  have y0 := (HY.out.below HL.out HY.out.lt).cell 0 _ rfl
  have y1 := (HY.out.below HL.out HY.out.lt).cell 1 _ rfl
  go_wp2_with fail
  refine (sstep_any (k : Int) _ (HPZ.out _ HL.out).v (HSV.out _ HL.out) (Nat.le_refl _) HRP.out HOK.out HWS.out).mono ?_
  rintro e V7 ⟨vm, vt, ps18, rfl, hos, hb⟩
  have HST := Lib.hid hb
  replace HL := Lib.hid (chain HL.out hb)
  clear hb x0 x1 y0 y1
  obtain ⟨A18, c18, rfl⟩ := own_slice (n := s.mem.length) (show V7.ownsRow _ _ 1 vm s.mem.length _ from by have e := hos.mem; unfold OwnI at e; rwa [((show (stp P s (k : Int)).mem.length = s.mem.length from (stp_len P s (k : Int)).1))] at e)
  obtain ⟨B18, e18, rfl⟩ := own_slice (n := s.ths.length) (show V7.ownsRow _ _ 4 vt s.ths.length _ from by have e := hos.ths; rwa [((show (stp P s (k : Int)).ths.length = s.ths.length from (stp_len P s (k : Int)).2))] at e)
  have HO18 := Lib.hid hos
  clear hos
  go_upto_region 13 with fail
  obtain ⟨X18, hX⟩ : ∃ W, W = V7.alloc (.cells #[.slice A18 s.mem.length c18, .slice B18 s.ths.length e18] 28) := ⟨_, rfl⟩
  obtain ⟨g18, hg⟩ : ∃ g, g = V7.heap.size := ⟨_, rfl⟩
  replace HST := Lib.hid (show Below V7.heap.size V7 X18 from by rw [hX]; exact below_al (Below.refl _ _) _)
  have HQ18 := Lib.hid (show BoxC X18 g18 28 #[.slice A18 s.mem.length c18, .slice B18 s.ths.length e18] from by rw [hX, hg]; exact BoxC.new V7 _ _)
  rw [← hX]
  (try rw [← hg])
  clear hX hg
  replace HL := Lib.hid (chain HL.out HST.out)
  replace HO18 := Lib.hid (HO18.out.below HST.out)
  have x0 := (HX.out.below HL.out HX.out.lt).cell 0 _ rfl
  have x1 := (HX.out.below HL.out HX.out.lt).cell 1 _ rfl
  have y0 := (HY.out.below HL.out HY.out.lt).cell 0 _ rfl
  have y1 := (HY.out.below HL.out HY.out.lt).cell 1 _ rfl
  go_wp2_with fail
  refine (sstep_any (j : Int) _ (HPZ.out _ HL.out).v (HSV.out _ HL.out) (Nat.le_refl _) HRP.out HOK.out HWS.out).mono ?_
  rintro e V8 ⟨vm, vt, ps20, rfl, hos, hb⟩
  have HBB20 := Lib.hid hb
  have HST := Lib.hid hb
  replace HL := Lib.hid (chain HL.out hb)
  clear hb x0 x1 y0 y1
  obtain ⟨A20, c20, rfl⟩ := own_slice (n := s.mem.length) (show V8.ownsRow _ _ 1 vm s.mem.length _ from by have e := hos.mem; unfold OwnI at e; rwa [((show (stp P s (j : Int)).mem.length = s.mem.length from (stp_len P s (j : Int)).1))] at e)
  obtain ⟨B20, e20, rfl⟩ := own_slice (n := s.ths.length) (show V8.ownsRow _ _ 4 vt s.ths.length _ from by have e := hos.ths; rwa [((show (stp P s (j : Int)).ths.length = s.ths.length from (stp_len P s (j : Int)).2))] at e)
  have HO20 := Lib.hid hos
  clear hos
  go_upto_region 14 with fail
  obtain ⟨X20, hX⟩ : ∃ W, W = V8.alloc (.cells #[.slice A20 s.mem.length c20, .slice B20 s.ths.length e20] 28) := ⟨_, rfl⟩
  obtain ⟨g20, hg⟩ : ∃ g, g = V8.heap.size := ⟨_, rfl⟩
  replace HST := Lib.hid (show Below V8.heap.size V8 X20 from by rw [hX]; exact below_al (Below.refl _ _) _)
  have HQ20 := Lib.hid (show BoxC X20 g20 28 #[.slice A20 s.mem.length c20, .slice B20 s.ths.length e20] from by rw [hX, hg]; exact BoxC.new V8 _ _)
  rw [← hX]
  (try rw [← hg])
  clear hX hg
  replace HL := Lib.hid (chain HL.out HST.out)
  replace HO20 := Lib.hid (HO20.out.below HST.out)
  have HL18 := Lib.hid (show Below X18.heap.size X18 X20 from chain HBB20.out HST.out)
  replace HO18 := Lib.hid (HO18.out.below HL18.out)
  replace HQ18 := Lib.hid (HQ18.out.below HL18.out HQ18.out.lt)
  have HK1 := Lib.hid (stp_ok HRP.out HOK.out (k : Int))
  have HK2 := Lib.hid (stp_ok HRP.out HOK.out (j : Int))
  have HW1 := Lib.hid (stp_wide (P := P) (k : Int) HWS.out)
  have HW2 := Lib.hid (stp_wide (P := P) (j : Int) HWS.out)
  have x0 := (HX.out.below HL.out HX.out.lt).cell 0 _ rfl
  have x1 := (HX.out.below HL.out HX.out.lt).cell 1 _ rfl
  have a0 := HQ18.out.cell 0 _ rfl
  have a1 := HQ18.out.cell 1 _ rfl
  go_wp2_with fail
  refine (rright_any _ (HPZ.out _ HL.out).v HO18.out.sv (Nat.le_refl _)).mono ?_
  rintro e V9 ⟨d, rfl, hd, hb⟩
  have HST := Lib.hid hb
  replace HL := Lib.hid (chain HL.out hb)
  clear hb x0 x1
  obtain rfl : d = true := hd.2 HK1.out
  clear hd a0 a1
  replace HO18 := Lib.hid (HO18.out.below HST.out)
  replace HQ18 := Lib.hid (HQ18.out.below HST.out HQ18.out.lt)
  replace HO20 := Lib.hid (HO20.out.below HST.out)
  replace HQ20 := Lib.hid (HQ20.out.below HST.out HQ20.out.lt)
  have x0 := (HX.out.below HL.out HX.out.lt).cell 0 _ rfl
  have x1 := (HX.out.below HL.out HX.out.lt).cell 1 _ rfl
  have a0 := HQ20.out.cell 0 _ rfl
  have a1 := HQ20.out.cell 1 _ rfl
  go_wp2_with fail
  refine (rright_any _ (HPZ.out _ HL.out).v HO20.out.sv (Nat.le_refl _)).mono ?_
  rintro e V10 ⟨d, rfl, hd, hb⟩
  have HST := Lib.hid hb
  replace HL := Lib.hid (chain HL.out hb)
  clear hb x0 x1
  obtain rfl : d = true := hd.2 HK2.out
  clear hd a0 a1
  replace HO18 := Lib.hid (HO18.out.below HST.out)
  replace HQ18 := Lib.hid (HQ18.out.below HST.out HQ18.out.lt)
  replace HO20 := Lib.hid (HO20.out.below HST.out)
  replace HQ20 := Lib.hid (HQ20.out.below HST.out HQ20.out.lt)
  have x0 := (HX.out.below HL.out HX.out.lt).cell 0 _ rfl
  have x1 := (HX.out.below HL.out HX.out.lt).cell 1 _ rfl
  have a0 := HQ18.out.cell 0 _ rfl
  have a1 := HQ18.out.cell 1 _ rfl
  go_wp2_with fail
  refine (sstep_any (j : Int) _ (HPZ.out _ HL.out).v HO18.out.sv (Nat.le_refl _) HRP.out HK1.out HW1.out).mono ?_
  rintro e V11 ⟨vm, vt, ps22, rfl, hos, hb⟩
  have HBB22 := Lib.hid hb
  have HST := Lib.hid hb
  replace HL := Lib.hid (chain HL.out hb)
  clear hb x0 x1
  obtain ⟨A22, c22, rfl⟩ := own_slice (n := s.mem.length) (show V11.ownsRow _ _ 1 vm s.mem.length _ from by have e := hos.mem; unfold OwnI at e; rwa [((show (stp P (stp P s (k : Int)) (j : Int)).mem.length = s.mem.length from (stp_len P _ _).1.trans (stp_len P s _).1))] at e)
  obtain ⟨B22, e22, rfl⟩ := own_slice (n := s.ths.length) (show V11.ownsRow _ _ 4 vt s.ths.length _ from by have e := hos.ths; rwa [((show (stp P (stp P s (k : Int)) (j : Int)).ths.length = s.ths.length from (stp_len P _ _).2.trans (stp_len P s _).2))] at e)
  have HO22 := Lib.hid hos
  clear hos
  go_upto_region 17 with fail
  obtain ⟨X22, hX⟩ : ∃ W, W = V11.alloc (.cells #[.slice A22 s.mem.length c22, .slice B22 s.ths.length e22] 28) := ⟨_, rfl⟩
  obtain ⟨g22, hg⟩ : ∃ g, g = V11.heap.size := ⟨_, rfl⟩
  replace HST := Lib.hid (show Below V11.heap.size V11 X22 from by rw [hX]; exact below_al (Below.refl _ _) _)
  have HQ22 := Lib.hid (show BoxC X22 g22 28 #[.slice A22 s.mem.length c22, .slice B22 s.ths.length e22] from by rw [hX, hg]; exact BoxC.new V11 _ _)
  rw [← hX]
  (try rw [← hg])
  clear hX hg
  replace HL := Lib.hid (chain HL.out HST.out)
  replace HO22 := Lib.hid (HO22.out.below HST.out)
  clear a0 a1
  have HL20 := Lib.hid (show Below V10.heap.size V10 X22 from chain HBB22.out HST.out)
  replace HO20 := Lib.hid (HO20.out.below HL20.out)
  replace HQ20 := Lib.hid (HQ20.out.below HL20.out HQ20.out.lt)
  have x0 := (HX.out.below HL.out HX.out.lt).cell 0 _ rfl
  have x1 := (HX.out.below HL.out HX.out.lt).cell 1 _ rfl
  have a0 := HQ20.out.cell 0 _ rfl
  have a1 := HQ20.out.cell 1 _ rfl
  go_wp2_with fail
  refine (sstep_any (k : Int) _ (HPZ.out _ HL.out).v HO20.out.sv (Nat.le_refl _) HRP.out HK2.out HW2.out).mono ?_
  rintro e V12 ⟨vm, vt, ps24, rfl, hos, hb⟩
  have HBB24 := Lib.hid hb
  have HST := Lib.hid hb
  replace HL := Lib.hid (chain HL.out hb)
  clear hb x0 x1
  obtain ⟨A24, c24, rfl⟩ := own_slice (n := s.mem.length) (show V12.ownsRow _ _ 1 vm s.mem.length _ from by have e := hos.mem; unfold OwnI at e; rwa [((show (stp P (stp P s (j : Int)) (k : Int)).mem.length = s.mem.length from (stp_len P _ _).1.trans (stp_len P s _).1))] at e)
  obtain ⟨B24, e24, rfl⟩ := own_slice (n := s.ths.length) (show V12.ownsRow _ _ 4 vt s.ths.length _ from by have e := hos.ths; rwa [((show (stp P (stp P s (j : Int)) (k : Int)).ths.length = s.ths.length from (stp_len P _ _).2.trans (stp_len P s _).2))] at e)
  have HO24 := Lib.hid hos
  clear hos
  go_upto_region 18 with fail
  obtain ⟨X24, hX⟩ : ∃ W, W = V12.alloc (.cells #[.slice A24 s.mem.length c24, .slice B24 s.ths.length e24] 28) := ⟨_, rfl⟩
  obtain ⟨g24, hg⟩ : ∃ g, g = V12.heap.size := ⟨_, rfl⟩
  replace HST := Lib.hid (show Below V12.heap.size V12 X24 from by rw [hX]; exact below_al (Below.refl _ _) _)
  have HQ24 := Lib.hid (show BoxC X24 g24 28 #[.slice A24 s.mem.length c24, .slice B24 s.ths.length e24] from by rw [hX, hg]; exact BoxC.new V12 _ _)
  rw [← hX]
  (try rw [← hg])
  clear hX hg
  replace HL := Lib.hid (chain HL.out HST.out)
  replace HO24 := Lib.hid (HO24.out.below HST.out)
  clear a0 a1
  have HL22 := Lib.hid (show Below X22.heap.size X22 X24 from chain HBB24.out HST.out)
  replace HO22 := Lib.hid (HO22.out.below HL22.out)
  replace HQ22 := Lib.hid (HQ22.out.below HL22.out HQ22.out.lt)
  rw [HSW.out.1, HSW2.out.1]
  replace HO24 := Lib.hid (HO24.out.cast HSW2.out.2)
  have a0 := HQ22.out.cell 0 _ rfl
  have a1 := HQ22.out.cell 1 _ rfl
  have b0 := HQ24.out.cell 0 _ rfl
  have b1 := HQ24.out.cell 1 _ rfl
  go_wp2_with fail
  refine (stsame_any _ HO22.out.sv HO24.out.sv (Nat.le_refl _)).mono ?_
  rintro e V99 ⟨rfl, hb⟩
  replace HL := Lib.hid (chain HL.out hb)
  clear hb a0 a1 b0 b1
  go_wp2
  go_ret
  exact ⟨rfl, chain HB2.out HL.out⟩
end Go.Proofs.Ytoeginglmgjojaa
