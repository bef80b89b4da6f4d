/-
  LAYER 11: the walk of TsoTells.
-/
import Derived.Test.YtkbnppidkhbbeaaTsH
import Derived.Test.YtkbnppidkhbbeaaTsG
import Derived.Test.YtkbnppidkhbbeaaTsJ
import Derived.Test.YtkbnppidkhbbeaaK13
import Derived.Test.YtkbnppidkhbbeaaTl1
import Derived.Deep.RegionHeld3
import Derived.Deep.DeepCutAuto
namespace Go.Proofs.Ytkbnppidkhbbeaa
open Go.RowKit
set_option linter.unusedVariables false
set_option linter.unusedSimpArgs false
open CodM (St Pg rightP hReg hLoc)
open BfM (Wr plc)
open ScM

set_option maxHeartbeats 8000000 in
set_option maxRecDepth 100000 in
theorem tsotells_any {B : Nat} {v u : Value} {P : Pg} {s : Sta} (t : Int) (d : Bool) (w : World) (hv : PgZ B w v P) (hu : StaV B w u s) (hBB : B ≤ w.heap.size) :
    Calls Try.prog 3 #[v, u, .agg #[.int .i64 t, .bool d]] w fun e w' => e = .returned (.bool true) ∧ Below w.heap.size w w' := by
  obtain ⟨pi, pt, rfl, hpm, hpi⟩ := hv
  obtain ⟨um, ut, rfl, hum⟩ := hu
  have HPM := Lib.hid hpm
  have HPI := Lib.hid hpi
  have HUM := Lib.hid hum
  obtain ⟨⟨P0, d0, rfl, -⟩, ⟨P1, d1, rfl, l1, l2, l3⟩⟩ := hpm
  obtain ⟨⟨A7, c7, rfl, m1, m2, m0, m3⟩, ⟨A1, c1, rfl, k1, k2, k0, k3⟩⟩ := hum
  clear hpi
  unfold maxLen at l2 m2 k2
  have HL3 := Lib.hid l3
  have HM3 := Lib.hid m3
  have HK3 := Lib.hid k3
  clear l3 m3 k3 m0 k0
  obtain ⟨W2, hW2⟩ : ∃ W, W = ((w.alloc (.cells #[.slice P0 P.init.length d0, .slice P1 P.ths.length d1] 25)).alloc (.cells #[.slice A7 s.mem.length c7, .slice A1 s.ths.length c1] 28)).alloc (.cells #[.int .i64 t, .bool d] 30) := ⟨_, rfl⟩
  obtain ⟨gp, hgp⟩ : ∃ g, g = w.heap.size := ⟨_, rfl⟩
  obtain ⟨gs, hgs⟩ : ∃ g, g = w.heap.size + 1 := ⟨_, rfl⟩
  obtain ⟨gk, hgk⟩ : ∃ g, g = w.heap.size + 1 + 1 := ⟨_, rfl⟩
  have HX := Lib.hid (show BoxC W2 gp 25 #[.slice P0 P.init.length d0, .slice P1 P.ths.length d1] from by rw [hW2, hgp]; exact ((BoxC.new w _ _).alloc _).alloc _)
  have HY := Lib.hid (show BoxC W2 gs 28 #[.slice A7 s.mem.length c7, .slice A1 s.ths.length c1] from by rw [hW2, hgs]; have := (BoxC.new (w.alloc (.cells #[.slice P0 P.init.length d0, .slice P1 P.ths.length d1] 25)) 28 #[.slice A7 s.mem.length c7, .slice A1 s.ths.length c1]).alloc (.cells #[.int .i64 t, .bool d] 30); rw [World.size_alloc] at this; exact this)
  have HKX := Lib.hid (show BoxC W2 gk 30 #[.int .i64 t, .bool d] from by rw [hW2, hgk]; have := BoxC.new ((w.alloc (.cells #[.slice P0 P.init.length d0, .slice P1 P.ths.length d1] 25)).alloc (.cells #[.slice A7 s.mem.length c7, .slice A1 s.ths.length c1] 28)) 30 #[.int .i64 t, .bool d]; rw [World.size_alloc, World.size_alloc] at this; exact this)
  have HB2 := Lib.hid (show Below w.heap.size w W2 from by rw [hW2]; exact below_al (below_al (below_al (Below.refl _ _) _) _) _)
  have HPZ := Lib.hid (fun W (hW : Below W2.heap.size W2 W) => show PgZ W.heap.size W (.agg #[.slice P0 P.init.length d0, .slice P1 P.ths.length d1]) P from ⟨_, _, rfl, (HPM.out.below ((chain HB2.out hW).mono hBB)).more (Nat.le_trans hBB (chain HB2.out hW).size), (HPI.out.below ((chain HB2.out hW).mono hBB)).more (Nat.le_trans hBB (chain HB2.out hW).size)⟩)
  have HSV := Lib.hid (fun W (hW : Below W2.heap.size W2 W) => show StaV W.heap.size W (.agg #[.slice A7 s.mem.length c7, .slice A1 s.ths.length c1]) s from ⟨_, _, rfl, (HUM.out.below ((chain HB2.out hW).mono hBB)).more (Nat.le_trans hBB (chain HB2.out hW).size)⟩)
  have HBW := Lib.hid (Nat.le_trans hBB HB2.out.size)
  have HL := Lib.hid (Below.refl W2.heap.size W2)
  go_enter Try.func3, Try.ntmps3
  go_upto_region 1 with fail
  rw [← hW2]
  (try rw [← hgk])
  (try rw [← hgs])
  (try rw [← hgp])
  clear hW2 hgk hgs hgp
  go_wp2_with fail
  refine (thead_any _).mono ?_
  rintro e V1 ⟨rfl, hb⟩
  have HST := Lib.hid hb
  replace HL := Lib.hid (chain HL.out hb)
  clear hb 
  have x0 := (HX.out.below HL.out HX.out.lt).cell 0 _ rfl
  have x1 := (HX.out.below HL.out HX.out.lt).cell 1 _ rfl
  have y0 := (HY.out.below HL.out HY.out.lt).cell 0 _ rfl
  have y1 := (HY.out.below HL.out HY.out.lt).cell 1 _ rfl
  go_wp2_with fail
  refine (tgreat_any _ (HPZ.out _ HL.out).v (HSV.out _ HL.out) (Nat.le_refl _)).mono ?_
  rintro e V2 ⟨gb, rfl, hg, hb⟩
  have HST := Lib.hid hb
  replace HL := Lib.hid (chain HL.out hb)
  clear hb x0 x1 y0 y1
  cases gb
  case true =>
    go_wp2
    go_ret
    exact ⟨rfl, chain HB2.out HL.out⟩
  have HRP := Lib.hid (hg rfl).1
  have HWN := Lib.hid (hg rfl).2.1
  have HWS := Lib.hid ((hg rfl).2.1.more (show 300 ≤ 50000 by decide))
  have HOK := Lib.hid (hg rfl).2.2
  clear hg
  have x0 := (HX.out.below HL.out HX.out.lt).cell 0 _ rfl
  have x1 := (HX.out.below HL.out HX.out.lt).cell 1 _ rfl
  have y0 := (HY.out.below HL.out HY.out.lt).cell 0 _ rfl
  have y1 := (HY.out.below HL.out HY.out.lt).cell 1 _ rfl
  have k0 := (HKX.out.below HL.out HKX.out.lt).cell 0 _ rfl
  have k1 := (HKX.out.below HL.out HKX.out.lt).cell 1 _ rfl
  go_wp2_with fail
  refine (tstep_any t d _ (HPZ.out _ HL.out).v (HSV.out _ HL.out) (Nat.le_refl _) HRP.out HOK.out HWS.out).mono ?_
  rintro e V3 ⟨vm, vt, ps8, rfl, hos, hb⟩
  have HST := Lib.hid hb
  replace HL := Lib.hid (chain HL.out hb)
  clear hb x0 x1 y0 y1
  clear k0 k1
  have HO8 := Lib.hid (show OwnSt _ V3 vm vt ((tst P s t d).getD s) ps8 from hos)
  obtain ⟨A8, c8, rfl⟩ := own_slice (n := s.mem.length) (show V3.ownsRow _ _ 1 vm s.mem.length _ from by have e := HO8.out.mem; unfold OwnI at e; rwa [show ((tst P s t d).getD s).mem.length = s.mem.length from (tst_glen HRP.out HOK.out).1] at e)
  obtain ⟨B8, e8, rfl⟩ := own_slice (n := s.ths.length) (show V3.ownsRow _ _ 4 vt s.ths.length _ from by have e := HO8.out.ths; rwa [show ((tst P s t d).getD s).ths.length = s.ths.length from (tst_glen HRP.out HOK.out).2] at e)
  clear hos
  go_upto_region 5 with fail
  obtain ⟨X8, hX⟩ : ∃ W, W = V3.alloc (.cells #[.slice A8 s.mem.length c8, .slice B8 s.ths.length e8] 28) := ⟨_, rfl⟩
  obtain ⟨g8, hg⟩ : ∃ g, g = V3.heap.size := ⟨_, rfl⟩
  have HST2 := Lib.hid (show Below V3.heap.size V3 X8 from by rw [hX]; exact below_al (Below.refl _ _) _)
  have HQ8 := Lib.hid (show BoxC X8 g8 28 #[.slice A8 s.mem.length c8, .slice B8 s.ths.length e8] from by rw [hX, hg]; exact BoxC.new V3 _ _)
  have HG8 := Lib.hid (show W2.heap.size ≤ g8 from by rw [hg]; exact HL.out.size)
  rw [← hX]
  (try rw [← hg])
  clear hX hg
  replace HL := Lib.hid (chain HL.out HST2.out)
  replace HO8 := Lib.hid (HO8.out.below HST2.out)
  replace HST := Lib.hid (chain HST.out HST2.out)
  clear HST2
  have x0 := (HX.out.below HL.out HX.out.lt).cell 0 _ rfl
  have x1 := (HX.out.below HL.out HX.out.lt).cell 1 _ rfl
  have y0 := (HY.out.below HL.out HY.out.lt).cell 0 _ rfl
  have y1 := (HY.out.below HL.out HY.out.lt).cell 1 _ rfl
  have k0 := (HKX.out.below HL.out HKX.out.lt).cell 0 _ rfl
  have k1 := (HKX.out.below HL.out HKX.out.lt).cell 1 _ rfl
  go_wp2_with fail
  refine (rtstep_any t d _ (HPZ.out _ HL.out).v (HSV.out _ HL.out) (Nat.le_refl _) HRP.out HOK.out HWS.out).mono ?_
  rintro e V4 ⟨vm, vt, ps10, rfl, hos, hb⟩
  have HST := Lib.hid hb
  replace HL := Lib.hid (chain HL.out hb)
  clear hb x0 x1 y0 y1
  clear k0 k1
  have HO10 := Lib.hid (show OwnSt _ V4 vm vt ((tst P s t d).getD s) ps10 from hos)
  obtain ⟨A10, c10, rfl⟩ := own_slice (n := s.mem.length) (show V4.ownsRow _ _ 1 vm s.mem.length _ from by have e := HO10.out.mem; unfold OwnI at e; rwa [show ((tst P s t d).getD s).mem.length = s.mem.length from (tst_glen HRP.out HOK.out).1] at e)
  obtain ⟨B10, e10, rfl⟩ := own_slice (n := s.ths.length) (show V4.ownsRow _ _ 4 vt s.ths.length _ from by have e := HO10.out.ths; rwa [show ((tst P s t d).getD s).ths.length = s.ths.length from (tst_glen HRP.out HOK.out).2] at e)
  clear hos
  go_upto_region 6 with fail
  obtain ⟨X10, hX⟩ : ∃ W, W = V4.alloc (.cells #[.slice A10 s.mem.length c10, .slice B10 s.ths.length e10] 28) := ⟨_, rfl⟩
  obtain ⟨g10, hg⟩ : ∃ g, g = V4.heap.size := ⟨_, rfl⟩
  have HST2 := Lib.hid (show Below V4.heap.size V4 X10 from by rw [hX]; exact below_al (Below.refl _ _) _)
  have HQ10 := Lib.hid (show BoxC X10 g10 28 #[.slice A10 s.mem.length c10, .slice B10 s.ths.length e10] from by rw [hX, hg]; exact BoxC.new V4 _ _)
  have HG10 := Lib.hid (show W2.heap.size ≤ g10 from by rw [hg]; exact HL.out.size)
  rw [← hX]
  (try rw [← hg])
  clear hX hg
  replace HL := Lib.hid (chain HL.out HST2.out)
  replace HO10 := Lib.hid (HO10.out.below HST2.out)
  replace HST := Lib.hid (chain HST.out HST2.out)
  clear HST2
  replace HO8 := Lib.hid (HO8.out.below HST.out)
  replace HQ8 := Lib.hid (HQ8.out.below HST.out HQ8.out.lt)
  have a0 := HQ8.out.cell 0 _ rfl
  have a1 := HQ8.out.cell 1 _ rfl
  have b0 := HQ10.out.cell 0 _ rfl
  have b1 := HQ10.out.cell 1 _ rfl
  have k0 := (HKX.out.below HL.out HKX.out.lt).cell 0 _ rfl
  have x0 := (HX.out.below HL.out HX.out.lt).cell 0 _ rfl
  have x1 := (HX.out.below HL.out HX.out.lt).cell 1 _ rfl
  have y0 := (HY.out.below HL.out HY.out.lt).cell 0 _ rfl
  have y1 := (HY.out.below HL.out HY.out.lt).cell 1 _ rfl
  obtain ⟨qq, hqq0⟩ : ∃ b, b = (tst P s t d).isSome := ⟨_, rfl⟩
  rw [← hqq0]
  clear hqq0
  have hqq : (qq == qq) = true := by cases qq <;> rfl
  cases qq
  all_goals
    refine wp_region_held_drew (S := (fun w' => (w'.cell? ⟨gp, 0, none⟩ = some (.slice P0 P.init.length d0) ∧ w'.cell? ⟨gp, 1, none⟩ = some (.slice P1 P.ths.length d1) ∧ w'.cell? ⟨gs, 0, none⟩ = some (.slice A7 s.mem.length c7) ∧ w'.cell? ⟨gs, 1, none⟩ = some (.slice A1 s.ths.length c1) ∧ w'.cell? ⟨g8, 0, none⟩ = some (.slice A8 s.mem.length c8) ∧ w'.cell? ⟨g8, 1, none⟩ = some (.slice B8 s.ths.length e8) ∧ w'.cell? ⟨g10, 0, none⟩ = some (.slice A10 s.mem.length c10) ∧ w'.cell? ⟨g10, 1, none⟩ = some (.slice B10 s.ths.length e10) ∧ w'.cell? ⟨gk, 0, none⟩ = some (.int .i64 t) ∧ True) ∧ Below X10.heap.size X10 w')) (by kernel_rfl) ⟨⟨x0, x1, y0, y1, a0, a1, b0, b1, k0, trivial⟩, below_drewN (Below.refl _ _) 1⟩ (fun hHeld => ?_)
    refine wpAnyH_take (i := 0) (v := ?_) rfl (by kernel_rfl) (by kernel_rfl) (by kernel_rfl) (fun _ _ _ h => h) (Or.inl ⟨by rfl, ?_⟩) (by assumption) ?_
    rotate_left
    · intro w hSw; (try dsimp only at hSw); go_simp; (try with_reducible rfl)
    (try simp only [Act.put, List.getElem_toArray, List.getElem_cons_zero, List.getElem_cons_succ, Array.getInternal_eq_getElem, List.setIfInBounds_toArray, List.set_cons_zero, List.set_cons_succ])
    refine wpAnyH_take (i := 1) (v := ?_) rfl (by kernel_rfl) (by kernel_rfl) (by kernel_rfl) (fun _ _ _ h => h) (Or.inl ⟨by rfl, ?_⟩) (by assumption) ?_
    rotate_left
    · intro w hSw; (try dsimp only at hSw); go_simp; (try with_reducible rfl)
    (try simp only [Act.put, List.getElem_toArray, List.getElem_cons_zero, List.getElem_cons_succ, Array.getInternal_eq_getElem, List.setIfInBounds_toArray, List.set_cons_zero, List.set_cons_succ])
    refine wpAnyH_take (i := 2) (v := ?_) rfl (by kernel_rfl) (by kernel_rfl) (by kernel_rfl) (fun _ _ _ h => h) (Or.inl ⟨by rfl, ?_⟩) (by assumption) ?_
    rotate_left
    · intro w hSw; (try dsimp only at hSw); go_simp; (try with_reducible rfl)
    (try simp only [Act.put, List.getElem_toArray, List.getElem_cons_zero, List.getElem_cons_succ, Array.getInternal_eq_getElem, List.setIfInBounds_toArray, List.set_cons_zero, List.set_cons_succ])
    refine wpAnyH_take (i := 3) (v := ?_) rfl (by kernel_rfl) (by kernel_rfl) (by kernel_rfl) (fun _ _ _ h => h) (Or.inl ⟨by rfl, ?_⟩) (by assumption) ?_
    rotate_left
    · intro w hSw; (try dsimp only at hSw); go_simp; (try with_reducible rfl)
    (try simp only [Act.put, List.getElem_toArray, List.getElem_cons_zero, List.getElem_cons_succ, Array.getInternal_eq_getElem, List.setIfInBounds_toArray, List.set_cons_zero, List.set_cons_succ])
    refine wpAnyH_ready (rs := [4]) (by kernel_rfl) (by simp) ?_
    refine AllReadyH.cons rfl (fun K hK => ?_) AllReadyH.nil
    go_simp
    refine (stsame_any _ ((HO8.out.below hHeld.2).sv) ((HO10.out.below hHeld.2).sv) (Nat.le_refl _)).mono ?_
    rintro e Y1 ⟨rfl, hb⟩
    have HY1 := Lib.hid (chain hHeld.2 hb)
    refine hK.out _ _ ⟨⟨kc HY1.out x0, kc HY1.out x1, kc HY1.out y0, kc HY1.out y1, kc HY1.out a0, kc HY1.out a1, kc HY1.out b0, kc HY1.out b1, kc HY1.out k0, trivial⟩, HY1.out⟩ (fun hHeld => ?_)
    clear hK K
    (try simp only [Act.put, List.getElem_toArray, List.getElem_cons_zero, List.getElem_cons_succ, Array.getInternal_eq_getElem, List.setIfInBounds_toArray, List.set_cons_zero, List.set_cons_succ])
    clear hb
    refine wpAnyH_take (i := 5) (v := ?_) rfl (by kernel_rfl) (by kernel_rfl) (by kernel_rfl) (fun _ _ _ h => h) (Or.inl ⟨by rfl, ?_⟩) (by assumption) ?_
    rotate_left
    · intro w hSw; (try dsimp only at hSw); go_simp; (try with_reducible rfl)
    (try simp only [Act.put, List.getElem_toArray, List.getElem_cons_zero, List.getElem_cons_succ, Array.getInternal_eq_getElem, List.setIfInBounds_toArray, List.set_cons_zero, List.set_cons_succ])
    refine wpAnyH_take (i := 6) (v := ?_) rfl (by kernel_rfl) (by kernel_rfl) (by kernel_rfl) (fun _ _ _ h => h) (Or.inl ⟨by rfl, ?_⟩) (by assumption) ?_
    rotate_left
    · intro w hSw; (try dsimp only at hSw); go_simp; (try with_reducible rfl)
    (try simp only [Act.put, List.getElem_toArray, List.getElem_cons_zero, List.getElem_cons_succ, Array.getInternal_eq_getElem, List.setIfInBounds_toArray, List.set_cons_zero, List.set_cons_succ])
    refine wpAnyH_take (i := 7) (v := ?_) rfl (by kernel_rfl) (by kernel_rfl) (by kernel_rfl) (fun _ _ _ h => h) (Or.inl ⟨by rfl, ?_⟩) (by assumption) ?_
    rotate_left
    · intro w hSw; (try dsimp only at hSw); go_simp; (try with_reducible rfl)
    (try simp only [Act.put, List.getElem_toArray, List.getElem_cons_zero, List.getElem_cons_succ, Array.getInternal_eq_getElem, List.setIfInBounds_toArray, List.set_cons_zero, List.set_cons_succ])
    refine wpAnyH_take (i := 8) (v := ?_) rfl (by kernel_rfl) (by kernel_rfl) (by kernel_rfl) (fun _ _ _ h => h) (Or.inl ⟨by rfl, ?_⟩) (by assumption) ?_
    rotate_left
    · intro w hSw; (try dsimp only at hSw); go_simp; (try with_reducible rfl)
    (try simp only [Act.put, List.getElem_toArray, List.getElem_cons_zero, List.getElem_cons_succ, Array.getInternal_eq_getElem, List.setIfInBounds_toArray, List.set_cons_zero, List.set_cons_succ])
    refine wpAnyH_take (i := 9) (v := ?_) rfl (by kernel_rfl) (by kernel_rfl) (by kernel_rfl) (fun _ _ _ h => h) (Or.inl ⟨by rfl, ?_⟩) (by assumption) ?_
    rotate_left
    · intro w hSw; (try dsimp only at hSw); go_simp; (try with_reducible rfl)
    (try simp only [Act.put, List.getElem_toArray, List.getElem_cons_zero, List.getElem_cons_succ, Array.getInternal_eq_getElem, List.setIfInBounds_toArray, List.set_cons_zero, List.set_cons_succ])
    refine wpAnyH_take (i := 10) (v := ?_) rfl (by kernel_rfl) (by kernel_rfl) (by kernel_rfl) (fun _ _ _ h => h) (Or.inl ⟨by rfl, ?_⟩) (by assumption) ?_
    rotate_left
    · intro w hSw; (try dsimp only at hSw); go_simp; (try with_reducible rfl)
    (try simp only [Act.put, List.getElem_toArray, List.getElem_cons_zero, List.getElem_cons_succ, Array.getInternal_eq_getElem, List.setIfInBounds_toArray, List.set_cons_zero, List.set_cons_succ])
    refine wpAnyH_take (i := 11) (v := ?_) rfl (by kernel_rfl) (by kernel_rfl) (by kernel_rfl) (fun _ _ _ h => h) (Or.inl ⟨by rfl, ?_⟩) (by assumption) ?_
    rotate_left
    · intro w hSw; (try dsimp only at hSw); go_simp; (try with_reducible rfl)
    (try simp only [Act.put, List.getElem_toArray, List.getElem_cons_zero, List.getElem_cons_succ, Array.getInternal_eq_getElem, List.setIfInBounds_toArray, List.set_cons_zero, List.set_cons_succ])
    refine wpAnyH_take (i := 12) (v := ?_) rfl (by kernel_rfl) (by kernel_rfl) (by kernel_rfl) (fun _ _ _ h => h) (Or.inl ⟨by rfl, ?_⟩) (by assumption) ?_
    rotate_left
    · intro w hSw; (try dsimp only at hSw); go_simp; (try with_reducible rfl)
    (try simp only [Act.put, List.getElem_toArray, List.getElem_cons_zero, List.getElem_cons_succ, Array.getInternal_eq_getElem, List.setIfInBounds_toArray, List.set_cons_zero, List.set_cons_succ])
    refine wpAnyH_take (i := 13) (v := ?_) rfl (by kernel_rfl) (by kernel_rfl) (by kernel_rfl) (fun _ _ _ h => h) (Or.inl ⟨by rfl, ?_⟩) (by assumption) ?_
    rotate_left
    · intro w hSw; (try dsimp only at hSw); go_simp; (try with_reducible rfl)
    (try simp only [Act.put, List.getElem_toArray, List.getElem_cons_zero, List.getElem_cons_succ, Array.getInternal_eq_getElem, List.setIfInBounds_toArray, List.set_cons_zero, List.set_cons_succ])
    refine wpAnyH_take (i := 15) (v := ?_) rfl (by kernel_rfl) (by kernel_rfl) (by kernel_rfl) (fun _ _ _ h => h) (Or.inl ⟨by rfl, ?_⟩) (by assumption) ?_
    rotate_left
    · intro w hSw; (try dsimp only at hSw); go_simp; (try with_reducible rfl)
    (try simp only [Act.put, List.getElem_toArray, List.getElem_cons_zero, List.getElem_cons_succ, Array.getInternal_eq_getElem, List.setIfInBounds_toArray, List.set_cons_zero, List.set_cons_succ])
    refine wpAnyH_take (i := 16) (v := ?_) rfl (by kernel_rfl) (by kernel_rfl) (by kernel_rfl) (fun _ _ _ h => h) (Or.inl ⟨by rfl, ?_⟩) (by assumption) ?_
    rotate_left
    · intro w hSw; (try dsimp only at hSw); go_simp; (try with_reducible rfl)
    (try simp only [Act.put, List.getElem_toArray, List.getElem_cons_zero, List.getElem_cons_succ, Array.getInternal_eq_getElem, List.setIfInBounds_toArray, List.set_cons_zero, List.set_cons_succ])
    refine wpAnyH_ready (rs := [14]) (by kernel_rfl) (by simp) ?_
    refine AllReadyH.cons rfl (fun K hK => ?_) AllReadyH.nil
    go_simp
    refine (tpicks_any _ (HPZ.out _ (chain HL.out hHeld.2)).v (HSV.out _ (chain HL.out hHeld.2)) (Nat.le_refl _) HOK.out HWS.out.ths).mono ?_
    rintro e Y2 ⟨vk, rfl, hok, hb⟩
    obtain ⟨Ak, ck, rfl⟩ := own_slice hok
    have HOK1 := Lib.hid hok
    have HY2 := Lib.hid (chain hHeld.2 hb)
    refine hK.out _ _ ⟨⟨kc HY2.out x0, kc HY2.out x1, kc HY2.out y0, kc HY2.out y1, kc HY2.out a0, kc HY2.out a1, kc HY2.out b0, kc HY2.out b1, kc HY2.out k0, trivial⟩, HY2.out⟩ (fun hHeld => ?_)
    clear hK K
    (try simp only [Act.put, List.getElem_toArray, List.getElem_cons_zero, List.getElem_cons_succ, Array.getInternal_eq_getElem, List.setIfInBounds_toArray, List.set_cons_zero, List.set_cons_succ])
    clear hb hok
    refine wpAnyH_ready (rs := [17]) (by kernel_rfl) (by simp) ?_
    refine AllReadyH.cons rfl (fun K hK => ?_) AllReadyH.nil
    go_simp
    refine (rpicks_any _ (HPZ.out _ (chain HL.out hHeld.2)).v (HSV.out _ (chain HL.out hHeld.2)) (Nat.le_refl _) HRP.out HOK.out HWS.out).mono ?_
    rintro e Y3 ⟨vk, rfl, hok, hb⟩
    obtain ⟨Aj, cj, rfl⟩ := own_slice hok
    have HOK2 := Lib.hid hok
    replace HOK1 := Lib.hid (own_below HOK1.out hb)
    have HY3 := Lib.hid (chain hHeld.2 hb)
    refine hK.out _ _ ⟨⟨kc HY3.out x0, kc HY3.out x1, kc HY3.out y0, kc HY3.out y1, kc HY3.out a0, kc HY3.out a1, kc HY3.out b0, kc HY3.out b1, kc HY3.out k0, trivial⟩, HY3.out⟩ (fun hHeld => ?_)
    clear hK K
    (try simp only [Act.put, List.getElem_toArray, List.getElem_cons_zero, List.getElem_cons_succ, Array.getInternal_eq_getElem, List.setIfInBounds_toArray, List.set_cons_zero, List.set_cons_succ])
    clear hb hok
    refine wpAnyH_ready (rs := [18]) (by kernel_rfl) (by simp) ?_
    refine AllReadyH.cons rfl (fun K hK => ?_) AllReadyH.nil
    go_simp
    refine (psame_any (ns := pks P s) _ (Rw.own HOK1.out (Nat.le_refl _)) (Rw.own HOK2.out (Nat.le_refl _)) (Nat.le_refl _)).mono ?_
    rintro e Y4 ⟨rfl, hb⟩
    have HY4 := Lib.hid (chain hHeld.2 hb)
    refine hK.out _ _ ⟨⟨kc HY4.out x0, kc HY4.out x1, kc HY4.out y0, kc HY4.out y1, kc HY4.out a0, kc HY4.out a1, kc HY4.out b0, kc HY4.out b1, kc HY4.out k0, trivial⟩, HY4.out⟩ (fun hHeld => ?_)
    clear hK K
    (try simp only [Act.put, List.getElem_toArray, List.getElem_cons_zero, List.getElem_cons_succ, Array.getInternal_eq_getElem, List.setIfInBounds_toArray, List.set_cons_zero, List.set_cons_succ])
    clear hb
    refine wpAnyH_take (i := 19) (v := ?_) rfl (by kernel_rfl) (by kernel_rfl) (by kernel_rfl) (fun _ _ _ h => h) (Or.inl ⟨by rfl, ?_⟩) (by assumption) ?_
    rotate_left
    · intro w hSw; (try dsimp only at hSw); go_simp; (try with_reducible rfl)
    (try simp only [Act.put, List.getElem_toArray, List.getElem_cons_zero, List.getElem_cons_succ, Array.getInternal_eq_getElem, List.setIfInBounds_toArray, List.set_cons_zero, List.set_cons_succ])
    refine wpAnyH_take (i := 20) (v := ?_) rfl (by kernel_rfl) (by kernel_rfl) (by kernel_rfl) (fun _ _ _ h => h) (Or.inl ⟨by rfl, ?_⟩) (by assumption) ?_
    rotate_left
    · intro w hSw; (try dsimp only at hSw); go_simp; (try with_reducible rfl)
    (try simp only [Act.put, List.getElem_toArray, List.getElem_cons_zero, List.getElem_cons_succ, Array.getInternal_eq_getElem, List.setIfInBounds_toArray, List.set_cons_zero, List.set_cons_succ])
    refine wpAnyH_take (i := 21) (v := ?_) rfl (by kernel_rfl) (by kernel_rfl) (by kernel_rfl) (fun _ _ _ h => h) (Or.inl ⟨by rfl, ?_⟩) (by assumption) ?_
    rotate_left
    · intro w hSw; (try dsimp only at hSw); go_simp; (try with_reducible rfl)
    (try simp only [Act.put, List.getElem_toArray, List.getElem_cons_zero, List.getElem_cons_succ, Array.getInternal_eq_getElem, List.setIfInBounds_toArray, List.set_cons_zero, List.set_cons_succ])
    refine wpAnyH_take (i := 22) (v := ?_) rfl (by kernel_rfl) (by kernel_rfl) (by kernel_rfl) (fun _ _ _ h => h) (Or.inl ⟨by rfl, ?_⟩) (by assumption) ?_
    rotate_left
    · intro w hSw; (try dsimp only at hSw); go_simp; (try with_reducible rfl)
    (try simp only [Act.put, List.getElem_toArray, List.getElem_cons_zero, List.getElem_cons_succ, Array.getInternal_eq_getElem, List.setIfInBounds_toArray, List.set_cons_zero, List.set_cons_succ])
    refine wpAnyH_take (i := 23) (v := ?_) rfl (by kernel_rfl) (by kernel_rfl) (by kernel_rfl) (fun _ _ _ h => h) (Or.inl ⟨by rfl, ?_⟩) (by assumption) ?_
    rotate_left
    · intro w hSw; (try dsimp only at hSw); go_simp; (try with_reducible rfl)
    (try simp only [Act.put, List.getElem_toArray, List.getElem_cons_zero, List.getElem_cons_succ, Array.getInternal_eq_getElem, List.setIfInBounds_toArray, List.set_cons_zero, List.set_cons_succ])
    refine wpAnyH_take (i := 24) (v := ?_) rfl (by kernel_rfl) (by kernel_rfl) (by kernel_rfl) (fun _ _ _ h => h) (Or.inl ⟨by rfl, ?_⟩) (by assumption) ?_
    rotate_left
    · intro w hSw; (try dsimp only at hSw); go_simp; (try with_reducible rfl)
    (try simp only [Act.put, List.getElem_toArray, List.getElem_cons_zero, List.getElem_cons_succ, Array.getInternal_eq_getElem, List.setIfInBounds_toArray, List.set_cons_zero, List.set_cons_succ])
    refine wpAnyH_take (i := 26) (v := ?_) rfl (by kernel_rfl) (by kernel_rfl) (by kernel_rfl) (fun _ _ _ h => h) (Or.inl ⟨by rfl, ?_⟩) (by assumption) ?_
    rotate_left
    · intro w hSw; (try dsimp only at hSw); go_simp; (try with_reducible rfl)
    (try simp only [Act.put, List.getElem_toArray, List.getElem_cons_zero, List.getElem_cons_succ, Array.getInternal_eq_getElem, List.setIfInBounds_toArray, List.set_cons_zero, List.set_cons_succ])
    refine wpAnyH_take (i := 27) (v := ?_) rfl (by kernel_rfl) (by kernel_rfl) (by kernel_rfl) (fun _ _ _ h => h) (Or.inl ⟨by rfl, ?_⟩) (by assumption) ?_
    rotate_left
    · intro w hSw; (try dsimp only at hSw); go_simp; (try with_reducible rfl)
    (try simp only [Act.put, List.getElem_toArray, List.getElem_cons_zero, List.getElem_cons_succ, Array.getInternal_eq_getElem, List.setIfInBounds_toArray, List.set_cons_zero, List.set_cons_succ])
    refine wpAnyH_take (i := 28) (v := ?_) rfl (by kernel_rfl) (by kernel_rfl) (by kernel_rfl) (fun _ _ _ h => h) (Or.inl ⟨by rfl, ?_⟩) (by assumption) ?_
    rotate_left
    · intro w hSw; (try dsimp only at hSw); go_simp; (try with_reducible rfl)
    (try simp only [Act.put, List.getElem_toArray, List.getElem_cons_zero, List.getElem_cons_succ, Array.getInternal_eq_getElem, List.setIfInBounds_toArray, List.set_cons_zero, List.set_cons_succ])
    refine wpAnyH_take (i := 29) (v := ?_) rfl (by kernel_rfl) (by kernel_rfl) (by kernel_rfl) (fun _ _ _ h => h) (Or.inl ⟨by rfl, ?_⟩) (by assumption) ?_
    rotate_left
    · intro w hSw; (try dsimp only at hSw); go_simp; (try with_reducible rfl)
    (try simp only [Act.put, List.getElem_toArray, List.getElem_cons_zero, List.getElem_cons_succ, Array.getInternal_eq_getElem, List.setIfInBounds_toArray, List.set_cons_zero, List.set_cons_succ])
    refine wpAnyH_ready (rs := [25]) (by kernel_rfl) (by simp) ?_
    refine AllReadyH.cons rfl (fun K hK => ?_) AllReadyH.nil
    go_simp
    refine (tflush_any t _ (HPZ.out _ (chain HL.out hHeld.2)).v (HSV.out _ (chain HL.out hHeld.2)) (Nat.le_refl _) HRP.out HOK.out HWS.out).mono ?_
    rintro e Y5 ⟨vm, vt, psf, rfl, hos, hb⟩
    obtain ⟨Af, cf, rfl⟩ := own_slice hos.mem
    obtain ⟨Bf, ef, rfl⟩ := own_slice hos.ths
    have HOF := Lib.hid hos
    have HY5 := Lib.hid (chain hHeld.2 hb)
    refine hK.out _ _ ⟨⟨kc HY5.out x0, kc HY5.out x1, kc HY5.out y0, kc HY5.out y1, kc HY5.out a0, kc HY5.out a1, kc HY5.out b0, kc HY5.out b1, kc HY5.out k0, trivial⟩, HY5.out⟩ (fun hHeld => ?_)
    clear hK K
    (try simp only [Act.put, List.getElem_toArray, List.getElem_cons_zero, List.getElem_cons_succ, Array.getInternal_eq_getElem, List.setIfInBounds_toArray, List.set_cons_zero, List.set_cons_succ])
    clear hb hos
    refine wpAnyH_ready (rs := [30]) (by kernel_rfl) (by simp) ?_
    refine AllReadyH.cons rfl (fun K hK => ?_) AllReadyH.nil
    go_simp
    refine (rflush_any t _ (HPZ.out _ (chain HL.out hHeld.2)).v (HSV.out _ (chain HL.out hHeld.2)) (Nat.le_refl _) HWS.out).mono ?_
    rintro e Y6 ⟨vm, vt, psg, rfl, hos, hb⟩
    obtain ⟨Ag, cg, rfl⟩ := own_slice hos.mem
    obtain ⟨Bg, eg, rfl⟩ := own_slice hos.ths
    have HOG := Lib.hid hos
    replace HOF := Lib.hid (HOF.out.below hb)
    have HY6 := Lib.hid (chain hHeld.2 hb)
    refine hK.out _ _ ⟨⟨kc HY6.out x0, kc HY6.out x1, kc HY6.out y0, kc HY6.out y1, kc HY6.out a0, kc HY6.out a1, kc HY6.out b0, kc HY6.out b1, kc HY6.out k0, trivial⟩, HY6.out⟩ (fun hHeld => ?_)
    clear hK K
    (try simp only [Act.put, List.getElem_toArray, List.getElem_cons_zero, List.getElem_cons_succ, Array.getInternal_eq_getElem, List.setIfInBounds_toArray, List.set_cons_zero, List.set_cons_succ])
    clear hb hos
    refine wpAnyH_ready (rs := [31]) (by kernel_rfl) (by simp) ?_
    refine AllReadyH.cons rfl (fun K hK => ?_) AllReadyH.nil
    go_simp
    refine (stsame_any _ HOF.out.sv HOG.out.sv (Nat.le_refl _)).mono ?_
    rintro e Y7 ⟨rfl, hb⟩
    have HY7 := Lib.hid (chain hHeld.2 hb)
    refine hK.out _ _ ⟨⟨kc HY7.out x0, kc HY7.out x1, kc HY7.out y0, kc HY7.out y1, kc HY7.out a0, kc HY7.out a1, kc HY7.out b0, kc HY7.out b1, kc HY7.out k0, trivial⟩, HY7.out⟩ (fun hHeld => ?_)
    clear hK K
    (try simp only [Act.put, List.getElem_toArray, List.getElem_cons_zero, List.getElem_cons_succ, Array.getInternal_eq_getElem, List.setIfInBounds_toArray, List.set_cons_zero, List.set_cons_succ])
    clear hb
    refine wpAnyH_take (i := 32) (v := ?_) rfl (by kernel_rfl) (by kernel_rfl) (by kernel_rfl) (fun _ _ _ h => h) (Or.inl ⟨by rfl, ?_⟩) (by assumption) ?_
    rotate_left
    · intro w hSw; (try dsimp only at hSw); go_simp; (try with_reducible rfl)
    (try simp only [Act.put, List.getElem_toArray, List.getElem_cons_zero, List.getElem_cons_succ, Array.getInternal_eq_getElem, List.setIfInBounds_toArray, List.set_cons_zero, List.set_cons_succ])
    refine wpAnyH_ready (rs := [33]) (by kernel_rfl) (by simp) ?_
    refine AllReadyH.cons rfl (fun K hK => ?_) AllReadyH.nil
    go_simp
    refine hK.out _ _ hHeld (fun hHeld => ?_)
    clear hK K
    (try simp only [Act.put, List.getElem_toArray, List.getElem_cons_zero, List.getElem_cons_succ, Array.getInternal_eq_getElem, List.setIfInBounds_toArray, List.set_cons_zero, List.set_cons_succ])
    refine wpAnyH_done (by kernel_rfl) ?_ _
    clear hHeld x0 x1 y0 y1 a0 a1 b0 b1 k0
    go_wp2
    go_ret
    exact ⟨rfl, chain HB2.out (chain HL.out HY7.out)⟩
end Go.Proofs.Ytkbnppidkhbbeaa
