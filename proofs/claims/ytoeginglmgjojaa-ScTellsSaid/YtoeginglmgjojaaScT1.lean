/-
  LAYER 10: the walk of ScTells.
-/
import Derived.Test.YtoeginglmgjojaaScHd
import Derived.Test.YtoeginglmgjojaaScSt
import Derived.Test.YtoeginglmgjojaaScBg
import Derived.Deep.RegionHeld3
import Derived.Deep.DeepCutAuto
namespace Go.Proofs.Ytoeginglmgjojaa
open Go.RowKit
set_option linter.unusedVariables false
set_option linter.unusedSimpArgs false
open CodM (St Pg rightP hReg hLoc)
open BfM (Wr plc)
open ScM

set_option maxHeartbeats 8000000 in
set_option maxRecDepth 100000 in
theorem sctells_any {B : Nat} {v u : Value} {P : Pg} {s : Sta} (t : Int) (w : World) (hv : PgZ B w v P) (hu : StaV B w u s) (hBB : B ≤ w.heap.size) :
    Calls Try.prog 3 #[v, u, .int .i64 t] w fun e w' => e = .returned (.bool true) ∧ Below w.heap.size w w' := by
  obtain ⟨pi, pt, rfl, hpm, hpi⟩ := hv
  obtain ⟨um, ut, rfl, hum⟩ := hu
  have HPM := Lib.hid hpm
  have HPI := Lib.hid hpi
  have HUM := Lib.hid hum
  obtain ⟨⟨P0, d0, rfl, -⟩, ⟨P1, d1, rfl, l1, l2, l3⟩⟩ := hpm
  obtain ⟨⟨A7, c7, rfl, m1, m2, m0, m3⟩, ⟨A1, c1, rfl, k1, k2, k0, k3⟩⟩ := hum
  clear hpi
  unfold maxLen at l2 m2 k2
  have HL3 := Lib.hid l3
  have HM3 := Lib.hid m3
  have HK3 := Lib.hid k3
  clear l3 m3 k3 m0 k0
  obtain ⟨W2, hW2⟩ : ∃ W, W = ((w.alloc (.cells #[.slice P0 P.init.length d0, .slice P1 P.ths.length d1] 25)).alloc (.cells #[.slice A7 s.mem.length c7, .slice A1 s.ths.length c1] 28)) := ⟨_, rfl⟩
  obtain ⟨gp, hgp⟩ : ∃ g, g = w.heap.size := ⟨_, rfl⟩
  obtain ⟨gs, hgs⟩ : ∃ g, g = w.heap.size + 1 := ⟨_, rfl⟩
  have HX := Lib.hid (show BoxC W2 gp 25 #[.slice P0 P.init.length d0, .slice P1 P.ths.length d1] from by rw [hW2, hgp]; exact (BoxC.new w _ _).alloc _)
  have HY := Lib.hid (show BoxC W2 gs 28 #[.slice A7 s.mem.length c7, .slice A1 s.ths.length c1] from by rw [hW2, hgs]; have := BoxC.new (w.alloc (.cells #[.slice P0 P.init.length d0, .slice P1 P.ths.length d1] 25)) 28 #[.slice A7 s.mem.length c7, .slice A1 s.ths.length c1]; rw [World.size_alloc] at this; exact this)
  have HB2 := Lib.hid (show Below w.heap.size w W2 from by rw [hW2]; exact below_al (below_al (Below.refl _ _) _) _)
  have HPZ := Lib.hid (fun W (hW : Below W2.heap.size W2 W) => show PgZ W.heap.size W (.agg #[.slice P0 P.init.length d0, .slice P1 P.ths.length d1]) P from ⟨_, _, rfl, (HPM.out.below ((chain HB2.out hW).mono hBB)).more (Nat.le_trans hBB (chain HB2.out hW).size), (HPI.out.below ((chain HB2.out hW).mono hBB)).more (Nat.le_trans hBB (chain HB2.out hW).size)⟩)
  have HSV := Lib.hid (fun W (hW : Below W2.heap.size W2 W) => show StaV W.heap.size W (.agg #[.slice A7 s.mem.length c7, .slice A1 s.ths.length c1]) s from ⟨_, _, rfl, (HUM.out.below ((chain HB2.out hW).mono hBB)).more (Nat.le_trans hBB (chain HB2.out hW).size)⟩)
  have HBW := Lib.hid (Nat.le_trans hBB HB2.out.size)
  have HL := Lib.hid (Below.refl W2.heap.size W2)
  go_enter Try.func3, Try.ntmps3
  go_upto_region 1 with fail
  rw [← hW2]
  (try rw [← hgs])
  (try rw [← hgp])
  clear hW2 hgs hgp
  go_wp2_with fail
  refine (head_any _).mono ?_
  rintro e V1 ⟨rfl, hb⟩
  have HST := Lib.hid hb
  replace HL := Lib.hid (chain HL.out hb)
  clear hb 
  have x0 := (HX.out.below HL.out HX.out.lt).cell 0 _ rfl
  have x1 := (HX.out.below HL.out HX.out.lt).cell 1 _ rfl
  go_wp2_with fail
  refine (cgreat_any _ (HPZ.out _ HL.out).v (Nat.le_refl _)).mono ?_
  rintro e V2 ⟨gb, rfl, hg, hb⟩
  have HST := Lib.hid hb
  replace HL := Lib.hid (chain HL.out hb)
  clear hb x0 x1
  cases gb
  case true =>
    go_wp2
    go_ret
    exact ⟨rfl, chain HB2.out HL.out⟩
  have HSM := Lib.hid (hg rfl).1
  have HRP := Lib.hid (hg rfl).2
  clear hg
  have y0 := (HY.out.below HL.out HY.out.lt).cell 0 _ rfl
  have y1 := (HY.out.below HL.out HY.out.lt).cell 1 _ rfl
  go_wp2_with fail
  refine (wide_any _ (HSV.out _ HL.out) (Nat.le_refl _)).mono ?_
  rintro e V3 ⟨gb, rfl, hg, hb⟩
  have HST := Lib.hid hb
  replace HL := Lib.hid (chain HL.out hb)
  clear hb y0 y1
  cases gb
  case true =>
    go_wp2
    go_ret
    exact ⟨rfl, chain HB2.out HL.out⟩
  have HWS := Lib.hid (hg rfl)
  clear hg
  have x0 := (HX.out.below HL.out HX.out.lt).cell 0 _ rfl
  have x1 := (HX.out.below HL.out HX.out.lt).cell 1 _ rfl
  have y0 := (HY.out.below HL.out HY.out.lt).cell 0 _ rfl
  have y1 := (HY.out.below HL.out HY.out.lt).cell 1 _ rfl
  go_upto_region 4 with fail
  refine wp_region_held_drew (S := (fun w' => (w'.cell? ⟨gp, 0, none⟩ = some (.slice P0 P.init.length d0) ∧ w'.cell? ⟨gp, 1, none⟩ = some (.slice P1 P.ths.length d1) ∧ w'.cell? ⟨gs, 0, none⟩ = some (.slice A7 s.mem.length c7) ∧ w'.cell? ⟨gs, 1, none⟩ = some (.slice A1 s.ths.length c1) ∧ True) ∧ Below W2.heap.size W2 w')) (by kernel_rfl) ⟨⟨x0, x1, y0, y1, trivial⟩, below_drewN HL.out 1⟩ (fun hHeld => ?_)
  refine wpAnyH_take (i := 0) (v := ?_) rfl (by kernel_rfl) (by kernel_rfl) (by kernel_rfl) (fun _ _ _ h => h) (Or.inl ⟨by rfl, ?_⟩) (by assumption) ?_
  rotate_left
  · intro w hSw; (try dsimp only at hSw); go_simp; (try with_reducible rfl)
  (try simp only [Act.put, List.getElem_toArray, List.getElem_cons_zero, List.getElem_cons_succ, Array.getInternal_eq_getElem, List.setIfInBounds_toArray, List.set_cons_zero, List.set_cons_succ])
  refine wpAnyH_take (i := 1) (v := ?_) rfl (by kernel_rfl) (by kernel_rfl) (by kernel_rfl) (fun _ _ _ h => h) (Or.inl ⟨by rfl, ?_⟩) (by assumption) ?_
  rotate_left
  · intro w hSw; (try dsimp only at hSw); go_simp; (try with_reducible rfl)
  (try simp only [Act.put, List.getElem_toArray, List.getElem_cons_zero, List.getElem_cons_succ, Array.getInternal_eq_getElem, List.setIfInBounds_toArray, List.set_cons_zero, List.set_cons_succ])
  refine wpAnyH_take (i := 3) (v := ?_) rfl (by kernel_rfl) (by kernel_rfl) (by kernel_rfl) (fun _ _ _ h => h) (Or.inl ⟨by rfl, ?_⟩) (by assumption) ?_
  rotate_left
  · intro w hSw; (try dsimp only at hSw); go_simp; (try with_reducible rfl)
  (try simp only [Act.put, List.getElem_toArray, List.getElem_cons_zero, List.getElem_cons_succ, Array.getInternal_eq_getElem, List.setIfInBounds_toArray, List.set_cons_zero, List.set_cons_succ])
  refine wpAnyH_take (i := 4) (v := ?_) rfl (by kernel_rfl) (by kernel_rfl) (by kernel_rfl) (fun _ _ _ h => h) (Or.inl ⟨by rfl, ?_⟩) (by assumption) ?_
  rotate_left
  · intro w hSw; (try dsimp only at hSw); go_simp; (try with_reducible rfl)
  (try simp only [Act.put, List.getElem_toArray, List.getElem_cons_zero, List.getElem_cons_succ, Array.getInternal_eq_getElem, List.setIfInBounds_toArray, List.set_cons_zero, List.set_cons_succ])
  refine wpAnyH_ready (rs := [2]) (by kernel_rfl) (by simp) ?_
  refine AllReadyH.cons rfl (fun K hK => ?_) AllReadyH.nil
  go_simp
  refine (sright_any _ (HPZ.out _ hHeld.2).v (HSV.out _ hHeld.2) (Nat.le_refl _) HRP.out HWS.out).mono ?_
  rintro e U1 ⟨q1, rfl, hq1, hb⟩
  have HQ1 := Lib.hid hq1
  clear hq1
  refine hK.out _ _ ⟨⟨kc hb hHeld.1.1, kc hb hHeld.1.2.1, kc hb hHeld.1.2.2.1, kc hb hHeld.1.2.2.2.1, trivial⟩, chain hHeld.2 hb⟩ (fun hHeld => ?_)
  clear hK K
  (try simp only [Act.put, List.getElem_toArray, List.getElem_cons_zero, List.getElem_cons_succ, Array.getInternal_eq_getElem, List.setIfInBounds_toArray, List.set_cons_zero, List.set_cons_succ])
  clear hb
  refine wpAnyH_ready (rs := [5]) (by kernel_rfl) (by simp) ?_
  refine AllReadyH.cons rfl (fun K hK => ?_) AllReadyH.nil
  go_simp
  refine (rright_any _ (HPZ.out _ hHeld.2).v (HSV.out _ hHeld.2) (Nat.le_refl _)).mono ?_
  rintro e U2 ⟨q2, rfl, hq2, hb⟩
  have HQ2 := Lib.hid hq2
  clear hq2
  obtain rfl : q1 = q2 := by cases q1 <;> cases q2 <;> first | rfl | (exact absurd (HQ1.out.2 (HQ2.out.1 rfl)) (by decide)) | (exact absurd (HQ2.out.2 (HQ1.out.1 rfl)) (by decide))
  refine hK.out _ _ ⟨⟨kc hb hHeld.1.1, kc hb hHeld.1.2.1, kc hb hHeld.1.2.2.1, kc hb hHeld.1.2.2.2.1, trivial⟩, chain hHeld.2 hb⟩ (fun hHeld => ?_)
  clear hK K
  (try simp only [Act.put, List.getElem_toArray, List.getElem_cons_zero, List.getElem_cons_succ, Array.getInternal_eq_getElem, List.setIfInBounds_toArray, List.set_cons_zero, List.set_cons_succ])
  clear hb
  have hne : (q1 != q1) = false := by cases q1 <;> rfl
  refine wpAnyH_take (i := 6) (v := ?_) rfl (by kernel_rfl) (by kernel_rfl) (by kernel_rfl) (fun _ _ _ h => h) (Or.inl ⟨by rfl, ?_⟩) (by assumption) ?_
  rotate_left
  · intro w hSw; (try dsimp only at hSw); go_simp; (try with_reducible rfl)
  (try simp only [Act.put, List.getElem_toArray, List.getElem_cons_zero, List.getElem_cons_succ, Array.getInternal_eq_getElem, List.setIfInBounds_toArray, List.set_cons_zero, List.set_cons_succ])
  refine wpAnyH_take (i := 7) (v := ?_) rfl (by kernel_rfl) (by kernel_rfl) (by kernel_rfl) (fun _ _ _ h => h) (Or.inl ⟨by rfl, ?_⟩) (by assumption) ?_
  rotate_left
  · intro w hSw; (try dsimp only at hSw); go_simp; (try with_reducible rfl)
  (try simp only [Act.put, List.getElem_toArray, List.getElem_cons_zero, List.getElem_cons_succ, Array.getInternal_eq_getElem, List.setIfInBounds_toArray, List.set_cons_zero, List.set_cons_succ])
  refine wpAnyH_take (i := 8) (v := ?_) rfl (by kernel_rfl) (by kernel_rfl) (by kernel_rfl) (fun _ _ _ h => h) (Or.inl ⟨by rfl, ?_⟩) (by assumption) ?_
  rotate_left
  · intro w hSw; (try dsimp only at hSw); go_simp; (try with_reducible rfl)
  (try simp only [Act.put, List.getElem_toArray, List.getElem_cons_zero, List.getElem_cons_succ, Array.getInternal_eq_getElem, List.setIfInBounds_toArray, List.set_cons_zero, List.set_cons_succ])
  refine wpAnyH_take (i := 10) (v := ?_) rfl (by kernel_rfl) (by kernel_rfl) (by kernel_rfl) (fun _ _ _ h => h) (Or.inl ⟨by rfl, ?_⟩) (by assumption) ?_
  rotate_left
  · intro w hSw; (try dsimp only at hSw); go_simp; (try with_reducible rfl)
  (try simp only [Act.put, List.getElem_toArray, List.getElem_cons_zero, List.getElem_cons_succ, Array.getInternal_eq_getElem, List.setIfInBounds_toArray, List.set_cons_zero, List.set_cons_succ])
  refine wpAnyH_ready (rs := [9]) (by kernel_rfl) (by simp) ?_
  refine AllReadyH.cons rfl (fun K hK => ?_) AllReadyH.nil
  go_simp
  refine (sbegin_any _ (HPZ.out _ hHeld.2) (Nat.le_refl _) HRP.out).mono ?_
  rintro e U3 ⟨vm, vt, ps, rfl, hos, hb⟩
  obtain ⟨Ag, cg, rfl⟩ := own_slice hos.mem
  obtain ⟨Bg, eg, rfl⟩ := own_slice hos.ths
  have HSA := Lib.hid hos.sv
  skip
  refine hK.out _ _ ⟨⟨kc hb hHeld.1.1, kc hb hHeld.1.2.1, kc hb hHeld.1.2.2.1, kc hb hHeld.1.2.2.2.1, trivial⟩, chain hHeld.2 hb⟩ (fun hHeld => ?_)
  clear hK K
  (try simp only [Act.put, List.getElem_toArray, List.getElem_cons_zero, List.getElem_cons_succ, Array.getInternal_eq_getElem, List.setIfInBounds_toArray, List.set_cons_zero, List.set_cons_succ])
  clear hb hos
  refine wpAnyH_ready (rs := [11]) (by kernel_rfl) (by simp) ?_
  refine AllReadyH.cons rfl (fun K hK => ?_) AllReadyH.nil
  go_simp
  refine (rbegin_any _ (HPZ.out _ hHeld.2) (Nat.le_refl _) HRP.out).mono ?_
  rintro e U4 ⟨vm, vt, ps4, rfl, hos, hb⟩
  obtain ⟨Ah, ch, rfl⟩ := own_slice hos.mem
  obtain ⟨Bh, eh, rfl⟩ := own_slice hos.ths
  have HSB := Lib.hid hos.sv
  replace HSA := Lib.hid ((HSA.out.below hb).more hb.size)
  refine hK.out _ _ ⟨⟨kc hb hHeld.1.1, kc hb hHeld.1.2.1, kc hb hHeld.1.2.2.1, kc hb hHeld.1.2.2.2.1, trivial⟩, chain hHeld.2 hb⟩ (fun hHeld => ?_)
  clear hK K
  (try simp only [Act.put, List.getElem_toArray, List.getElem_cons_zero, List.getElem_cons_succ, Array.getInternal_eq_getElem, List.setIfInBounds_toArray, List.set_cons_zero, List.set_cons_succ])
  clear hb hos
  refine wpAnyH_ready (rs := [12]) (by kernel_rfl) (by simp) ?_
  refine AllReadyH.cons rfl (fun K hK => ?_) AllReadyH.nil
  go_simp
  refine (stsame_any _ HSA.out HSB.out (Nat.le_refl _)).mono ?_
  rintro e U5 ⟨rfl, hb⟩
  have HLU := Lib.hid (chain hHeld.2 hb)
  refine hK.out _ _ ⟨⟨kc hb hHeld.1.1, kc hb hHeld.1.2.1, kc hb hHeld.1.2.2.1, kc hb hHeld.1.2.2.2.1, trivial⟩, chain hHeld.2 hb⟩ (fun hHeld => ?_)
  clear hK K
  (try simp only [Act.put, List.getElem_toArray, List.getElem_cons_zero, List.getElem_cons_succ, Array.getInternal_eq_getElem, List.setIfInBounds_toArray, List.set_cons_zero, List.set_cons_succ])
  clear hb
  refine wpAnyH_take (i := 13) (v := ?_) rfl (by kernel_rfl) (by kernel_rfl) (by kernel_rfl) (fun _ _ _ h => h) (Or.inl ⟨by rfl, ?_⟩) (by assumption) ?_
  rotate_left
  · intro w hSw; (try dsimp only at hSw); go_simp; (try with_reducible rfl)
  (try simp only [Act.put, List.getElem_toArray, List.getElem_cons_zero, List.getElem_cons_succ, Array.getInternal_eq_getElem, List.setIfInBounds_toArray, List.set_cons_zero, List.set_cons_succ])
  refine wpAnyH_take (i := 14) (v := ?_) rfl (by kernel_rfl) (by kernel_rfl) (by kernel_rfl) (fun _ _ _ h => h) (Or.inl ⟨by rfl, ?_⟩) (by assumption) ?_
  rotate_left
  · intro w hSw; (try dsimp only at hSw); go_simp; (try with_reducible rfl)
  (try simp only [Act.put, List.getElem_toArray, List.getElem_cons_zero, List.getElem_cons_succ, Array.getInternal_eq_getElem, List.setIfInBounds_toArray, List.set_cons_zero, List.set_cons_succ])
  refine wpAnyH_done (by kernel_rfl) ?_ _
  clear hHeld x0 x1 y0 y1 hne HSA HSB
  replace HL := Lib.hid HLU.out
  clear HLU
  have x0 := (HX.out.below HL.out HX.out.lt).cell 0 _ rfl
  have x1 := (HX.out.below HL.out HX.out.lt).cell 1 _ rfl
  have y0 := (HY.out.below HL.out HY.out.lt).cell 0 _ rfl
  have y1 := (HY.out.below HL.out HY.out.lt).cell 1 _ rfl
  go_wp2_with fail
  refine (rright_any _ (HPZ.out _ HL.out).v (HSV.out _ HL.out) (Nat.le_refl _)).mono ?_
  rintro e V4 ⟨d, rfl, hd, hb⟩
  have HST := Lib.hid hb
  replace HL := Lib.hid (chain HL.out hb)
  clear hb x0 x1 y0 y1
  cases d
  case false =>
    go_wp2
    go_ret
    exact ⟨rfl, chain HB2.out HL.out⟩
  have HOK := Lib.hid (hd.1 rfl)
  clear hd
  have x0 := (HX.out.below HL.out HX.out.lt).cell 0 _ rfl
  have x1 := (HX.out.below HL.out HX.out.lt).cell 1 _ rfl
  have y0 := (HY.out.below HL.out HY.out.lt).cell 0 _ rfl
  have y1 := (HY.out.below HL.out HY.out.lt).cell 1 _ rfl
  go_wp2_with fail
  refine (sstep_any t _ (HPZ.out _ HL.out).v (HSV.out _ HL.out) (Nat.le_refl _) HRP.out HOK.out HWS.out).mono ?_
  rintro e V5 ⟨vm, vt, ps8, rfl, hos, hb⟩
  have HST := Lib.hid hb
  replace HL := Lib.hid (chain HL.out hb)
  clear hb x0 x1 y0 y1
  obtain ⟨A8, c8, rfl⟩ := own_slice (n := s.mem.length) (show V5.ownsRow _ _ 1 vm s.mem.length _ from by have e := hos.mem; unfold OwnI at e; rwa [((show (stp P s t).mem.length = s.mem.length from (stp_len P s t).1))] at e)
  obtain ⟨B8, e8, rfl⟩ := own_slice (n := s.ths.length) (show V5.ownsRow _ _ 4 vt s.ths.length _ from by have e := hos.ths; rwa [((show (stp P s t).ths.length = s.ths.length from (stp_len P s t).2))] at e)
  have HO8 := Lib.hid hos
  clear hos
  go_upto_region 9 with fail
  obtain ⟨X8, hX⟩ : ∃ W, W = V5.alloc (.cells #[.slice A8 s.mem.length c8, .slice B8 s.ths.length e8] 28) := ⟨_, rfl⟩
  obtain ⟨g8, hg⟩ : ∃ g, g = V5.heap.size := ⟨_, rfl⟩
  replace HST := Lib.hid (show Below V5.heap.size V5 X8 from by rw [hX]; exact below_al (Below.refl _ _) _)
  have HQ8 := Lib.hid (show BoxC X8 g8 28 #[.slice A8 s.mem.length c8, .slice B8 s.ths.length e8] from by rw [hX, hg]; exact BoxC.new V5 _ _)
  rw [← hX]
  (try rw [← hg])
  clear hX hg
  replace HL := Lib.hid (chain HL.out HST.out)
  replace HO8 := Lib.hid (HO8.out.below HST.out)
  have x0 := (HX.out.below HL.out HX.out.lt).cell 0 _ rfl
  have x1 := (HX.out.below HL.out HX.out.lt).cell 1 _ rfl
  have y0 := (HY.out.below HL.out HY.out.lt).cell 0 _ rfl
  have y1 := (HY.out.below HL.out HY.out.lt).cell 1 _ rfl
  go_wp2_with fail
  refine (rstep_any t _ (HPZ.out _ HL.out).v (HSV.out _ HL.out) (Nat.le_refl _) HRP.out HOK.out HWS.out).mono ?_
  rintro e V6 ⟨vm, vt, ps9, rfl, hos, hb⟩
  have HB8 := Lib.hid hb
  have HST := Lib.hid hb
  replace HL := Lib.hid (chain HL.out hb)
  clear hb x0 x1 y0 y1
  obtain ⟨A9, c9, rfl⟩ := own_slice (n := s.mem.length) (show V6.ownsRow _ _ 1 vm s.mem.length _ from by have e := hos.mem; unfold OwnI at e; rwa [((show (stp P s t).mem.length = s.mem.length from (stp_len P s t).1))] at e)
  obtain ⟨B9, e9, rfl⟩ := own_slice (n := s.ths.length) (show V6.ownsRow _ _ 4 vt s.ths.length _ from by have e := hos.ths; rwa [((show (stp P s t).ths.length = s.ths.length from (stp_len P s t).2))] at e)
  have HO9 := Lib.hid hos
  clear hos
  go_upto_region 10 with fail
  obtain ⟨X9, hX⟩ : ∃ W, W = V6.alloc (.cells #[.slice A9 s.mem.length c9, .slice B9 s.ths.length e9] 28) := ⟨_, rfl⟩
  obtain ⟨g9, hg⟩ : ∃ g, g = V6.heap.size := ⟨_, rfl⟩
  replace HST := Lib.hid (show Below V6.heap.size V6 X9 from by rw [hX]; exact below_al (Below.refl _ _) _)
  have HQ9 := Lib.hid (show BoxC X9 g9 28 #[.slice A9 s.mem.length c9, .slice B9 s.ths.length e9] from by rw [hX, hg]; exact BoxC.new V6 _ _)
  rw [← hX]
  (try rw [← hg])
  clear hX hg
  replace HL := Lib.hid (chain HL.out HST.out)
  replace HO9 := Lib.hid (HO9.out.below HST.out)
  have HL8 := Lib.hid (show Below X8.heap.size X8 X9 from chain HB8.out HST.out)
  replace HO8 := Lib.hid (HO8.out.below HL8.out)
  replace HQ8 := Lib.hid (HQ8.out.below HL8.out HQ8.out.lt)
  have a0 := HQ8.out.cell 0 _ rfl
  have a1 := HQ8.out.cell 1 _ rfl
  have b0 := HQ9.out.cell 0 _ rfl
  have b1 := HQ9.out.cell 1 _ rfl
  generalize (atS P s t).isSome = qq at *
  go_wp2_with fail
  refine (stsame_any _ HO8.out.sv HO9.out.sv (Nat.le_refl _)).mono ?_
  rintro e V9 ⟨rfl, hb⟩
  replace HL := Lib.hid (chain HL.out hb)
  clear hb a0 a1 b0 b1
  cases qq
  all_goals
    go_wp2
    go_ret
    exact ⟨rfl, chain HB2.out HL.out⟩
end Go.Proofs.Ytoeginglmgjojaa
