/-
  LAYER 11: the walk of TsoOnce.
-/
import Derived.Test.YtkbnppidkhbbeaaTsH
import Derived.Test.YtkbnppidkhbbeaaTsG
import Derived.Test.YtkbnppidkhbbeaaScSt
import Derived.Deep.RegionHeld3
import Derived.Deep.DeepCutAuto
namespace Go.Proofs.Ytkbnppidkhbbeaa
open Go.RowKit
set_option linter.unusedVariables false
set_option linter.unusedSimpArgs false
open CodM (St Pg rightP hReg hLoc)
open BfM (Wr plc)
open ScM

theorem tst_glen {P : Pg} {s : Sta} {t : Int} {d : Bool} (hr : rightP P = true) (ho : OkSt P s) : ((tst P s t d).getD s).mem.length = s.mem.length ∧ ((tst P s t d).getD s).ths.length = s.ths.length := by
  have h := tst_getD_ok (t := t) (d := d) hr ho
  exact ⟨h.mem.trans ho.mem.symm, h.ths.trans ho.ths.symm⟩
theorem flu_len {P : Pg} {s : Sta} (t : Int) (ho : OkSt P s) : (flu s t).mem.length = s.mem.length ∧ (flu s t).ths.length = s.ths.length := by
  have h := flu_ok t ho
  exact ⟨h.mem.trans ho.mem.symm, h.ths.trans ho.ths.symm⟩
/-- A step with nothing on its way, flushed. -/
theorem once_eq {P : Pg} {s : Sta} {k : Nat} (hr : rightP P = true) (ho : OkSt P s) (hk : k < s.ths.length) (hb : s.ths[k].buf = []) :
    (tst P s (k : Int) false).isSome = (atS P s (k : Int)).isSome ∧ flu ((tst P s (k : Int) false).getD s) (k : Int) = stp P s (k : Int) := by
  have h2 : k < P.ths.length := by rw [← ho.ths]; exact hk
  have hf : flu s (k : Int) = s := by
    rw [flu_at hk, hb]
    unfold BfM.all
    refine sta_eq rfl ?_
    rw [← hb]
    exact List.set_getElem_self hk
  by_cases h3 : s.ths[k].at'.toNat < P.ths[k].length
  · have hst : stuck P.ths[k][s.ths[k].at'.toNat] s.ths[k] = false := by unfold stuck; rw [hb]; rfl
    rw [tst_step hk h2 h3, hst, atS_at hk h2 h3]
    refine ⟨rfl, ?_⟩
    have := flu_tsS hr ho hk h2 h3 hst
    rw [hf] at this
    exact this
  · have hn : atS P s (k : Int) = none := atS_none (fun ⟨j, e, a, b, c⟩ => by
      have : j = k := by omega
      subst this; exact h3 c)
    rw [tst_end hn, hn, stp_no hn]
    exact ⟨rfl, hf⟩
set_option maxHeartbeats 8000000 in
set_option maxRecDepth 100000 in
theorem tsoonce_any {B : Nat} {v u : Value} {P : Pg} {s : Sta} (t : Int) (w : World) (hv : PgZ B w v P) (hu : StaV B w u s) (hBB : B ≤ w.heap.size) :
    Calls Try.prog 4 #[v, u, .int .i64 t] w fun e w' => e = .returned (.bool true) ∧ Below w.heap.size w w' := by
  obtain ⟨pi, pt, rfl, hpm, hpi⟩ := hv
  obtain ⟨um, ut, rfl, hum⟩ := hu
  have HPM := Lib.hid hpm
  have HPI := Lib.hid hpi
  have HUM := Lib.hid hum
  obtain ⟨⟨P0, d0, rfl, -⟩, ⟨P1, d1, rfl, l1, l2, l3⟩⟩ := hpm
  obtain ⟨⟨A7, c7, rfl, m1, m2, m0, m3⟩, ⟨A1, c1, rfl, k1, k2, k0, k3⟩⟩ := hum
  clear hpi
  unfold maxLen at l2 m2 k2
  have HL3 := Lib.hid l3
  have HM3 := Lib.hid m3
  have HK3 := Lib.hid k3
  clear l3 m3 k3 m0 k0
  obtain ⟨W2, hW2⟩ : ∃ W, W = ((w.alloc (.cells #[.slice P0 P.init.length d0, .slice P1 P.ths.length d1] 25)).alloc (.cells #[.slice A7 s.mem.length c7, .slice A1 s.ths.length c1] 28)) := ⟨_, rfl⟩
  obtain ⟨gp, hgp⟩ : ∃ g, g = w.heap.size := ⟨_, rfl⟩
  obtain ⟨gs, hgs⟩ : ∃ g, g = w.heap.size + 1 := ⟨_, rfl⟩
  have HX := Lib.hid (show BoxC W2 gp 25 #[.slice P0 P.init.length d0, .slice P1 P.ths.length d1] from by rw [hW2, hgp]; exact (BoxC.new w _ _).alloc _)
  have HY := Lib.hid (show BoxC W2 gs 28 #[.slice A7 s.mem.length c7, .slice A1 s.ths.length c1] from by rw [hW2, hgs]; have := BoxC.new (w.alloc (.cells #[.slice P0 P.init.length d0, .slice P1 P.ths.length d1] 25)) 28 #[.slice A7 s.mem.length c7, .slice A1 s.ths.length c1]; rw [World.size_alloc] at this; exact this)
  have HB2 := Lib.hid (show Below w.heap.size w W2 from by rw [hW2]; exact below_al (below_al (Below.refl _ _) _) _)
  have HPZ := Lib.hid (fun W (hW : Below W2.heap.size W2 W) => show PgZ W.heap.size W (.agg #[.slice P0 P.init.length d0, .slice P1 P.ths.length d1]) P from ⟨_, _, rfl, (HPM.out.below ((chain HB2.out hW).mono hBB)).more (Nat.le_trans hBB (chain HB2.out hW).size), (HPI.out.below ((chain HB2.out hW).mono hBB)).more (Nat.le_trans hBB (chain HB2.out hW).size)⟩)
  have HSV := Lib.hid (fun W (hW : Below W2.heap.size W2 W) => show StaV W.heap.size W (.agg #[.slice A7 s.mem.length c7, .slice A1 s.ths.length c1]) s from ⟨_, _, rfl, (HUM.out.below ((chain HB2.out hW).mono hBB)).more (Nat.le_trans hBB (chain HB2.out hW).size)⟩)
  have HBW := Lib.hid (Nat.le_trans hBB HB2.out.size)
  have HL := Lib.hid (Below.refl W2.heap.size W2)
  go_enter Try.func4, Try.ntmps4
  go_upto_region 1 with fail
  rw [← hW2]
  (try rw [← hgs])
  (try rw [← hgp])
  clear hW2 hgs hgp
  go_wp2_with fail
  refine (thead_any _).mono ?_
  rintro e V1 ⟨rfl, hb⟩
  have HST := Lib.hid hb
  replace HL := Lib.hid (chain HL.out hb)
  clear hb 
  have x0 := (HX.out.below HL.out HX.out.lt).cell 0 _ rfl
  have x1 := (HX.out.below HL.out HX.out.lt).cell 1 _ rfl
  have y0 := (HY.out.below HL.out HY.out.lt).cell 0 _ rfl
  have y1 := (HY.out.below HL.out HY.out.lt).cell 1 _ rfl
  go_wp2_with fail
  refine (tgreat_any _ (HPZ.out _ HL.out).v (HSV.out _ HL.out) (Nat.le_refl _)).mono ?_
  rintro e V2 ⟨gb, rfl, hg, hb⟩
  have HST := Lib.hid hb
  replace HL := Lib.hid (chain HL.out hb)
  clear hb x0 x1 y0 y1
  cases gb
  case true =>
    go_wp2
    go_ret
    exact ⟨rfl, chain HB2.out HL.out⟩
  have HRP := Lib.hid (hg rfl).1
  have HWN := Lib.hid (hg rfl).2.1
  have HWS := Lib.hid ((hg rfl).2.1.more (show 300 ≤ 50000 by decide))
  have HOK := Lib.hid (hg rfl).2.2
  clear hg
  have y0 := (HY.out.below HL.out HY.out.lt).cell 0 _ rfl
  have y1 := (HY.out.below HL.out HY.out.lt).cell 1 _ rfl
  by_cases h0 : t < 0
  · skip
    go_wp2
    go_ret
    exact ⟨rfl, chain HB2.out HL.out⟩
  by_cases h1 : (s.ths.length : Int) ≤ t
  · skip
    go_wp2
    go_ret
    exact ⟨rfl, chain HB2.out HL.out⟩
  obtain ⟨k, rfl⟩ : ∃ k : Nat, t = k := ⟨t.toNat, by omega⟩
  have hks : k < s.ths.length := by omega
  obtain ⟨b1, f1, rfl, hb1, hc1⟩ := HK3.out (by omega)
  obtain ⟨vr, vb, -, -, -, c3', -, hW⟩ := hc1 k hks
  rcases hth : s.ths[k] with ⟨xa, xr, xe, xb⟩
  rw [hth] at hW
  obtain ⟨Ab, cb, rfl, q1, q2, -⟩ := hW
  unfold maxLen at q2
  dsimp only at q1 c3'
  have c3 := (((chain HB2.out HL.out).mono hBB).cell (p := ⟨b1, f1 + k * 4 + 3, none⟩) hb1).trans c3'
  clear hc1
  by_cases h2 : 0 < xb.length
  · skip
    go_wp2
    go_ret
    exact ⟨rfl, chain HB2.out HL.out⟩
  have hbe : s.ths[k].buf = [] := by rw [hth]; exact List.eq_nil_of_length_eq_zero (l := xb) (by omega)
  have HMA := Lib.hid (once_eq HRP.out HOK.out hks hbe)
  clear c3' hth hbe
  clear y0 y1
  have x0 := (HX.out.below HL.out HX.out.lt).cell 0 _ rfl
  have x1 := (HX.out.below HL.out HX.out.lt).cell 1 _ rfl
  have y0 := (HY.out.below HL.out HY.out.lt).cell 0 _ rfl
  have y1 := (HY.out.below HL.out HY.out.lt).cell 1 _ rfl
  go_upto_region 4 with fail
  clear c3 h2 x0 x1 y0 y1
  have x0 := (HX.out.below HL.out HX.out.lt).cell 0 _ rfl
  have x1 := (HX.out.below HL.out HX.out.lt).cell 1 _ rfl
  have y0 := (HY.out.below HL.out HY.out.lt).cell 0 _ rfl
  have y1 := (HY.out.below HL.out HY.out.lt).cell 1 _ rfl
  go_wp2_with fail
  refine (tstep_any (k : Int) false _ (HPZ.out _ HL.out).v (HSV.out _ HL.out) (Nat.le_refl _) HRP.out HOK.out HWS.out).mono ?_
  rintro e V3 ⟨vm, vt, ps8, rfl, hos, hb⟩
  have HST := Lib.hid hb
  replace HL := Lib.hid (chain HL.out hb)
  clear hb x0 x1 y0 y1
  
  have HO8 := Lib.hid (show OwnSt _ V3 vm vt ((tst P s (k : Int) false).getD s) ps8 from hos)
  obtain ⟨A8, c8, rfl⟩ := own_slice (n := s.mem.length) (show V3.ownsRow _ _ 1 vm s.mem.length _ from by have e := HO8.out.mem; unfold OwnI at e; rwa [show ((tst P s (k : Int) false).getD s).mem.length = s.mem.length from (tst_glen HRP.out HOK.out).1] at e)
  obtain ⟨B8, e8, rfl⟩ := own_slice (n := s.ths.length) (show V3.ownsRow _ _ 4 vt s.ths.length _ from by have e := HO8.out.ths; rwa [show ((tst P s (k : Int) false).getD s).ths.length = s.ths.length from (tst_glen HRP.out HOK.out).2] at e)
  clear hos
  go_upto_region 5 with fail
  obtain ⟨X8, hX⟩ : ∃ W, W = V3.alloc (.cells #[.slice A8 s.mem.length c8, .slice B8 s.ths.length e8] 28) := ⟨_, rfl⟩
  obtain ⟨g8, hg⟩ : ∃ g, g = V3.heap.size := ⟨_, rfl⟩
  have HST2 := Lib.hid (show Below V3.heap.size V3 X8 from by rw [hX]; exact below_al (Below.refl _ _) _)
  have HQ8 := Lib.hid (show BoxC X8 g8 28 #[.slice A8 s.mem.length c8, .slice B8 s.ths.length e8] from by rw [hX, hg]; exact BoxC.new V3 _ _)
  have HG8 := Lib.hid (show W2.heap.size ≤ g8 from by rw [hg]; exact HL.out.size)
  rw [← hX]
  (try rw [← hg])
  clear hX hg
  replace HL := Lib.hid (chain HL.out HST2.out)
  replace HO8 := Lib.hid (HO8.out.below HST2.out)
  replace HST := Lib.hid (chain HST.out HST2.out)
  clear HST2
  have x0 := (HX.out.below HL.out HX.out.lt).cell 0 _ rfl
  have x1 := (HX.out.below HL.out HX.out.lt).cell 1 _ rfl
  have y0 := (HY.out.below HL.out HY.out.lt).cell 0 _ rfl
  have y1 := (HY.out.below HL.out HY.out.lt).cell 1 _ rfl
  have HBV0 := Lib.hid HST.out
  go_wp2_with fail
  refine (refstep_any (k : Int) _ (HPZ.out _ HL.out).v (HSV.out _ HL.out) (Nat.le_refl _) HRP.out HOK.out HWS.out).mono ?_
  rintro e V4 ⟨vm, vt, ps10, rfl, hos, hb⟩
  have HST := Lib.hid hb
  replace HL := Lib.hid (chain HL.out hb)
  clear hb x0 x1 y0 y1
  have HBV := Lib.hid HST.out
  have HO10 := Lib.hid (show OwnSt _ V4 vm vt (stp P s (k : Int)) ps10 from hos)
  obtain ⟨A10, c10, rfl⟩ := own_slice (n := s.mem.length) (show V4.ownsRow _ _ 1 vm s.mem.length _ from by have e := HO10.out.mem; unfold OwnI at e; rwa [show (stp P s (k : Int)).mem.length = s.mem.length from (stp_len P s k).1] at e)
  obtain ⟨B10, e10, rfl⟩ := own_slice (n := s.ths.length) (show V4.ownsRow _ _ 4 vt s.ths.length _ from by have e := HO10.out.ths; rwa [show (stp P s (k : Int)).ths.length = s.ths.length from (stp_len P s k).2] at e)
  clear hos
  go_upto_region 6 with fail
  obtain ⟨X10, hX⟩ : ∃ W, W = V4.alloc (.cells #[.slice A10 s.mem.length c10, .slice B10 s.ths.length e10] 28) := ⟨_, rfl⟩
  obtain ⟨g10, hg⟩ : ∃ g, g = V4.heap.size := ⟨_, rfl⟩
  have HST2 := Lib.hid (show Below V4.heap.size V4 X10 from by rw [hX]; exact below_al (Below.refl _ _) _)
  have HQ10 := Lib.hid (show BoxC X10 g10 28 #[.slice A10 s.mem.length c10, .slice B10 s.ths.length e10] from by rw [hX, hg]; exact BoxC.new V4 _ _)
  have HG10 := Lib.hid (show W2.heap.size ≤ g10 from by rw [hg]; exact HL.out.size)
  rw [← hX]
  (try rw [← hg])
  clear hX hg
  replace HL := Lib.hid (chain HL.out HST2.out)
  replace HO10 := Lib.hid (HO10.out.below HST2.out)
  replace HST := Lib.hid (chain HST.out HST2.out)
  clear HST2
  replace HO8 := Lib.hid (HO8.out.below HST.out)
  replace HQ8 := Lib.hid (HQ8.out.below HST.out HQ8.out.lt)
  have HIS := Lib.hid HMA.out.1
  rw [HIS.out]
  have a0 := HQ8.out.cell 0 _ rfl
  have a1 := HQ8.out.cell 1 _ rfl
  have b0 := HQ10.out.cell 0 _ rfl
  have b1 := HQ10.out.cell 1 _ rfl
  have x0 := (HX.out.below HL.out HX.out.lt).cell 0 _ rfl
  have x1 := (HX.out.below HL.out HX.out.lt).cell 1 _ rfl
  generalize (atS P s (k : Int)).isSome = qq at *
  have hqq : (qq == qq) = true := by cases qq <;> rfl
  cases qq
  all_goals
    skip
    refine wp_region_held_drew (S := (fun w' => (w'.cell? ⟨gp, 0, none⟩ = some (.slice P0 P.init.length d0) ∧ w'.cell? ⟨gp, 1, none⟩ = some (.slice P1 P.ths.length d1) ∧ w'.cell? ⟨g8, 0, none⟩ = some (.slice A8 s.mem.length c8) ∧ w'.cell? ⟨g8, 1, none⟩ = some (.slice B8 s.ths.length e8) ∧ w'.cell? ⟨g10, 0, none⟩ = some (.slice A10 s.mem.length c10) ∧ w'.cell? ⟨g10, 1, none⟩ = some (.slice B10 s.ths.length e10) ∧ True) ∧ Below X10.heap.size X10 w')) (by kernel_rfl) ⟨⟨x0, x1, a0, a1, b0, b1, trivial⟩, below_drewN (Below.refl _ _) 1⟩ (fun hHeld => ?_)
    refine wpAnyH_take (i := 0) (v := ?_) rfl (by kernel_rfl) (by kernel_rfl) (by kernel_rfl) (fun _ _ _ h => h) (Or.inl ⟨by rfl, ?_⟩) (by assumption) ?_
    rotate_left
    · intro w hSw; (try dsimp only at hSw); go_simp; (try with_reducible rfl)
    (try simp only [Act.put, List.getElem_toArray, List.getElem_cons_zero, List.getElem_cons_succ, Array.getInternal_eq_getElem, List.setIfInBounds_toArray, List.set_cons_zero, List.set_cons_succ])
    refine wpAnyH_take (i := 1) (v := ?_) rfl (by kernel_rfl) (by kernel_rfl) (by kernel_rfl) (fun _ _ _ h => h) (Or.inl ⟨by rfl, ?_⟩) (by assumption) ?_
    rotate_left
    · intro w hSw; (try dsimp only at hSw); go_simp; (try with_reducible rfl)
    (try simp only [Act.put, List.getElem_toArray, List.getElem_cons_zero, List.getElem_cons_succ, Array.getInternal_eq_getElem, List.setIfInBounds_toArray, List.set_cons_zero, List.set_cons_succ])
    refine wpAnyH_take (i := 2) (v := ?_) rfl (by kernel_rfl) (by kernel_rfl) (by kernel_rfl) (fun _ _ _ h => h) (Or.inl ⟨by rfl, ?_⟩) (by assumption) ?_
    rotate_left
    · intro w hSw; (try dsimp only at hSw); go_simp; (try with_reducible rfl)
    (try simp only [Act.put, List.getElem_toArray, List.getElem_cons_zero, List.getElem_cons_succ, Array.getInternal_eq_getElem, List.setIfInBounds_toArray, List.set_cons_zero, List.set_cons_succ])
    refine wpAnyH_take (i := 3) (v := ?_) rfl (by kernel_rfl) (by kernel_rfl) (by kernel_rfl) (fun _ _ _ h => h) (Or.inl ⟨by rfl, ?_⟩) (by assumption) ?_
    rotate_left
    · intro w hSw; (try dsimp only at hSw); go_simp; (try with_reducible rfl)
    (try simp only [Act.put, List.getElem_toArray, List.getElem_cons_zero, List.getElem_cons_succ, Array.getInternal_eq_getElem, List.setIfInBounds_toArray, List.set_cons_zero, List.set_cons_succ])
    refine wpAnyH_take (i := 4) (v := ?_) rfl (by kernel_rfl) (by kernel_rfl) (by kernel_rfl) (fun _ _ _ h => h) (Or.inl ⟨by rfl, ?_⟩) (by assumption) ?_
    rotate_left
    · intro w hSw; (try dsimp only at hSw); go_simp; (try with_reducible rfl)
    (try simp only [Act.put, List.getElem_toArray, List.getElem_cons_zero, List.getElem_cons_succ, Array.getInternal_eq_getElem, List.setIfInBounds_toArray, List.set_cons_zero, List.set_cons_succ])
    refine wpAnyH_take (i := 5) (v := ?_) rfl (by kernel_rfl) (by kernel_rfl) (by kernel_rfl) (fun _ _ _ h => h) (Or.inl ⟨by rfl, ?_⟩) (by assumption) ?_
    rotate_left
    · intro w hSw; (try dsimp only at hSw); go_simp; (try with_reducible rfl)
    (try simp only [Act.put, List.getElem_toArray, List.getElem_cons_zero, List.getElem_cons_succ, Array.getInternal_eq_getElem, List.setIfInBounds_toArray, List.set_cons_zero, List.set_cons_succ])
    refine wpAnyH_take (i := 6) (v := ?_) rfl (by kernel_rfl) (by kernel_rfl) (by kernel_rfl) (fun _ _ _ h => h) (Or.inl ⟨by rfl, ?_⟩) (by assumption) ?_
    rotate_left
    · intro w hSw; (try dsimp only at hSw); go_simp; (try with_reducible rfl)
    (try simp only [Act.put, List.getElem_toArray, List.getElem_cons_zero, List.getElem_cons_succ, Array.getInternal_eq_getElem, List.setIfInBounds_toArray, List.set_cons_zero, List.set_cons_succ])
    refine wpAnyH_take (i := 7) (v := ?_) rfl (by kernel_rfl) (by kernel_rfl) (by kernel_rfl) (fun _ _ _ h => h) (Or.inl ⟨by rfl, ?_⟩) (by assumption) ?_
    rotate_left
    · intro w hSw; (try dsimp only at hSw); go_simp; (try with_reducible rfl)
    (try simp only [Act.put, List.getElem_toArray, List.getElem_cons_zero, List.getElem_cons_succ, Array.getInternal_eq_getElem, List.setIfInBounds_toArray, List.set_cons_zero, List.set_cons_succ])
    refine wpAnyH_take (i := 8) (v := ?_) rfl (by kernel_rfl) (by kernel_rfl) (by kernel_rfl) (fun _ _ _ h => h) (Or.inl ⟨by rfl, ?_⟩) (by assumption) ?_
    rotate_left
    · intro w hSw; (try dsimp only at hSw); go_simp; (try with_reducible rfl)
    (try simp only [Act.put, List.getElem_toArray, List.getElem_cons_zero, List.getElem_cons_succ, Array.getInternal_eq_getElem, List.setIfInBounds_toArray, List.set_cons_zero, List.set_cons_succ])
    refine wpAnyH_take (i := 9) (v := ?_) rfl (by kernel_rfl) (by kernel_rfl) (by kernel_rfl) (fun _ _ _ h => h) (Or.inl ⟨by rfl, ?_⟩) (by assumption) ?_
    rotate_left
    · intro w hSw; (try dsimp only at hSw); go_simp; (try with_reducible rfl)
    (try simp only [Act.put, List.getElem_toArray, List.getElem_cons_zero, List.getElem_cons_succ, Array.getInternal_eq_getElem, List.setIfInBounds_toArray, List.set_cons_zero, List.set_cons_succ])
    refine wpAnyH_take (i := 11) (v := ?_) rfl (by kernel_rfl) (by kernel_rfl) (by kernel_rfl) (fun _ _ _ h => h) (Or.inl ⟨by rfl, ?_⟩) (by assumption) ?_
    rotate_left
    · intro w hSw; (try dsimp only at hSw); go_simp; (try with_reducible rfl)
    (try simp only [Act.put, List.getElem_toArray, List.getElem_cons_zero, List.getElem_cons_succ, Array.getInternal_eq_getElem, List.setIfInBounds_toArray, List.set_cons_zero, List.set_cons_succ])
    refine wpAnyH_ready (rs := [10]) (by kernel_rfl) (by simp) ?_
    refine AllReadyH.cons rfl (fun K hK => ?_) AllReadyH.nil
    go_simp
    refine (tflush_any (k : Int) _ (HPZ.out _ (chain HL.out hHeld.2)).v ((HO8.out.below hHeld.2).sv) (Nat.le_refl _) HRP.out (tst_getD_ok HRP.out HOK.out) ((tst_getD_wide HRP.out HOK.out HWN.out).more (by decide))).mono ?_
    rintro e Xf ⟨vm, vt, psf, rfl, hos, hb⟩
    rw [HMA.out.2] at hos
    obtain ⟨Af, cf, rfl⟩ := own_slice hos.mem
    obtain ⟨Bf, ef, rfl⟩ := own_slice hos.ths
    have HOF := Lib.hid hos
    have HBF := Lib.hid (chain hHeld.2 hb)
    refine hK.out _ _ ⟨⟨kc HBF.out x0, kc HBF.out x1, kc HBF.out a0, kc HBF.out a1, kc HBF.out b0, kc HBF.out b1, trivial⟩, HBF.out⟩ (fun hHeld => ?_)
    clear hK K
    (try simp only [Act.put, List.getElem_toArray, List.getElem_cons_zero, List.getElem_cons_succ, Array.getInternal_eq_getElem, List.setIfInBounds_toArray, List.set_cons_zero, List.set_cons_succ])
    clear hb hos
    refine wpAnyH_ready (rs := [12]) (by kernel_rfl) (by simp) ?_
    refine AllReadyH.cons rfl (fun K hK => ?_) AllReadyH.nil
    go_simp
    refine (stsame_any _ HOF.out.sv ((HO10.out.below hHeld.2).sv) (Nat.le_refl _)).mono ?_
    rintro e Xg ⟨rfl, hb⟩
    have HBG := Lib.hid (chain hHeld.2 hb)
    refine hK.out _ _ ⟨⟨kc HBG.out x0, kc HBG.out x1, kc HBG.out a0, kc HBG.out a1, kc HBG.out b0, kc HBG.out b1, trivial⟩, HBG.out⟩ (fun hHeld => ?_)
    clear hK K
    (try simp only [Act.put, List.getElem_toArray, List.getElem_cons_zero, List.getElem_cons_succ, Array.getInternal_eq_getElem, List.setIfInBounds_toArray, List.set_cons_zero, List.set_cons_succ])
    clear hb
    refine wpAnyH_take (i := 13) (v := ?_) rfl (by kernel_rfl) (by kernel_rfl) (by kernel_rfl) (fun _ _ _ h => h) (Or.inl ⟨by rfl, ?_⟩) (by assumption) ?_
    rotate_left
    · intro w hSw; (try dsimp only at hSw); go_simp; (try with_reducible rfl)
    (try simp only [Act.put, List.getElem_toArray, List.getElem_cons_zero, List.getElem_cons_succ, Array.getInternal_eq_getElem, List.setIfInBounds_toArray, List.set_cons_zero, List.set_cons_succ])
    refine wpAnyH_ready (rs := [14]) (by kernel_rfl) (by simp) ?_
    refine AllReadyH.cons rfl (fun K hK => ?_) AllReadyH.nil
    go_simp
    refine hK.out _ _ hHeld (fun hHeld => ?_)
    clear hK K
    (try simp only [Act.put, List.getElem_toArray, List.getElem_cons_zero, List.getElem_cons_succ, Array.getInternal_eq_getElem, List.setIfInBounds_toArray, List.set_cons_zero, List.set_cons_succ])
    refine wpAnyH_done (by kernel_rfl) ?_ _
    clear hHeld a0 a1 b0 b1 x0 x1
    go_wp2
    go_ret
    exact ⟨rfl, chain HB2.out (chain HL.out HBG.out)⟩
end Go.Proofs.Ytkbnppidkhbbeaa
