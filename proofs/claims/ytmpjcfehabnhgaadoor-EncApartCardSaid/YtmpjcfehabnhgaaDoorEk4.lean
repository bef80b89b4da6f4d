/-
  EncApart, over any world: unlike states have unlike numbers, and unlike keys.
-/
import Derived.Test.YtmpjcfehabnhgaaDoorEk1
import Derived.Test.YtmpjcfehabnhgaaDoorEnX
namespace Go.Proofs.YtmpjcfehabnhgaaDoor
open Go.RowKit Go.Shelf
set_option linter.unusedVariables false
set_option linter.unusedSimpArgs false
open WordM (L)
open BfM (Wr)
open ScM
open EnM

set_option maxHeartbeats 8000000 in
set_option maxRecDepth 100000 in
theorem encapart_any {a0 : Addr} {v u : Value} {s t : Sta} (w : World) (hE : ErG w.heap.size a0 w) (hv : StaV w.heap.size w v s) (hi : StaIn s) (hu : StaV w.heap.size w u t) (hj : StaIn t) :
    Calls Tryd.prog 6 #[v, u] w fun e w' => e = .returned (.bool true) ∧ Below w.heap.size w w' := by
  obtain ⟨vm, vt, rfl, hm, ht⟩ := hv
  obtain ⟨um, ut, rfl, im, it⟩ := hu
  have HV := Lib.hid (fun W (hW : Below w.heap.size w W) => show StaV W.heap.size W (.agg #[vm, vt]) s from StaV.more (StaV.below ⟨vm, vt, rfl, hm, ht⟩ hW) hW.size)
  have HU := Lib.hid (fun W (hW : Below w.heap.size w W) => show StaV W.heap.size W (.agg #[um, ut]) t from StaV.more (StaV.below ⟨um, ut, rfl, im, it⟩ hW) hW.size)
  have hA := below_al (Below.refl w.heap.size w) (.cells #[vm, vt] 25)
  have hs1 : (w.alloc (.cells #[vm, vt] 25)).heap.size = w.heap.size + 1 := by simp
  have hA2 := below_al hA (.cells #[um, ut] 25)
  have hbx := (BoxC.new w 25 #[vm, vt]).alloc (.cells #[um, ut] 25)
  have hby := BoxC.new (w.alloc (.cells #[vm, vt] 25)) 25 #[um, ut]
  rw [hs1] at hby
  have HX0 := Lib.hid hbx
  have HY0 := Lib.hid hby
  have HH := Lib.hid (ehead_any _ ((hE.below hA2).more hA2.size))
  have HA := Lib.hid hA2
  obtain ⟨A1, c1, rfl, -⟩ := hm
  obtain ⟨A2, c2, rfl, -⟩ := ht
  obtain ⟨A3, c3, rfl, -⟩ := im
  obtain ⟨A4, c4, rfl, -⟩ := it
  have HII := Lib.hid hi
  have HJJ := Lib.hid hj
  have HML := Lib.hid (fun (a b : Nat) (h : a = b) => h)
  clear hA hA2 hs1 hbx hby hE hi hj HML
  go_enter Tryd.func6, Tryd.ntmps6
  go_wp2_with (go_at_call 9; refine HH.out.mono ?_)
  rintro e w1 ⟨rfl, hb⟩
  have hB1 := HA.out.trans (hb.mono HA.out.size)
  have HX1 := Lib.hid (HX0.out.below hb HX0.out.lt)
  have HY1 := Lib.hid (HY0.out.below hb HY0.out.lt)
  have HWD := Lib.hid (wide_any w1 (HV.out w1 hB1) (Nat.le_refl _))
  clear hb HX0 HY0 HH HA
  have x0 := HX1.out.cell 0 _ rfl
  have x1 := HX1.out.cell 1 _ rfl
  have y0 := HY1.out.cell 0 _ rfl
  have y1 := HY1.out.cell 1 _ rfl
  go_wp2_with (go_at_call 10; refine HWD.out.mono ?_)
  rintro e w2 ⟨b, rfl, hwd, hb⟩
  have hB2 := hB1.trans (hb.mono hB1.size)
  have HX2 := Lib.hid (HX1.out.below hb HX1.out.lt)
  have HY2 := Lib.hid (HY1.out.below hb HY1.out.lt)
  clear x0 x1 y0 y1 hb hB1 HX1 HY1 HWD
  have x0 := HX2.out.cell 0 _ rfl
  have x1 := HX2.out.cell 1 _ rfl
  have y0 := HY2.out.cell 0 _ rfl
  have y1 := HY2.out.cell 1 _ rfl
  cases b with
  | true =>
    clear hwd
    go_wp2
    go_ret
    exact ⟨rfl, hB2⟩
  | false =>
  have HWS := Lib.hid (hwd rfl)
  have HWD := Lib.hid (wide_any w2 (HU.out w2 hB2) (Nat.le_refl _))
  clear hwd
  go_wp2_with (go_at_call 10; refine HWD.out.mono ?_)
  rintro e w3 ⟨b, rfl, hwd, hb⟩
  have hB3 := hB2.trans (hb.mono hB2.size)
  have HX3 := Lib.hid (HX2.out.below hb HX2.out.lt)
  have HY3 := Lib.hid (HY2.out.below hb HY2.out.lt)
  clear x0 x1 y0 y1 hb hB2 HX2 HY2 HWD
  have x0 := HX3.out.cell 0 _ rfl
  have x1 := HX3.out.cell 1 _ rfl
  have y0 := HY3.out.cell 0 _ rfl
  have y1 := HY3.out.cell 1 _ rfl
  cases b with
  | true =>
    clear hwd
    go_wp2
    go_ret
    exact ⟨rfl, hB3⟩
  | false =>
  have HWT := Lib.hid (hwd rfl)
  have HSM := Lib.hid (stsame_dec w3 (HV.out w3 hB3) (HU.out w3 hB3) (Nat.le_refl _))
  clear hwd
  go_wp2_with (go_at_call 20; refine HSM.out.mono ?_)
  rintro e w4 ⟨b, rfl, hbs, hb⟩
  have hB4 := hB3.trans (hb.mono hB3.size)
  have HX4 := Lib.hid (HX3.out.below hb HX3.out.lt)
  have HY4 := Lib.hid (HY3.out.below hb HY3.out.lt)
  clear x0 x1 y0 y1 hb hB3 HX3 HY3 HSM
  have x0 := HX4.out.cell 0 _ rfl
  have x1 := HX4.out.cell 1 _ rfl
  have y0 := HY4.out.cell 0 _ rfl
  have y1 := HY4.out.cell 1 _ rfl
  have HIN := Lib.hid (wide_in HII.out HWS.out)
  have HLN := Lib.hid (wide_len HWS.out)
  have HIN' := Lib.hid (wide_in HJJ.out HWT.out)
  have HLN' := Lib.hid (wide_len HWT.out)
  have HN1 := Lib.hid (fun W (hW : Below w4.heap.size w4 W) => nums_any W (HV.out W (hB4.trans (hW.mono hB4.size))) (Nat.le_refl _) (by have := HLN.out; omega))
  have HN2 := Lib.hid (fun W (hW : Below w4.heap.size w4 W) => nums_any W (HU.out W (hB4.trans (hW.mono hB4.size))) (Nat.le_refl _) (by have := HLN'.out; omega))
  have HK1 := Lib.hid (fun W (hW : Below w4.heap.size w4 W) => key_any W (HV.out W (hB4.trans (hW.mono hB4.size))) (Nat.le_refl _) HIN.out (by have := HLN.out; omega))
  have HK2 := Lib.hid (fun W (hW : Below w4.heap.size w4 W) => key_any W (HU.out W (hB4.trans (hW.mono hB4.size))) (Nat.le_refl _) HIN'.out (by have := HLN'.out; omega))
  have HNI := Lib.hid (fun (h : ¬ s = t) => show ¬ numsS s = numsS t from fun e => h (numsS_inj e))
  have HKI := Lib.hid (fun (h : ¬ s = t) => show ¬ keyS s = keyS t from fun e => h (keyS_inj HIN.out HIN'.out e))
  have HNQ := Lib.hid (fun (h : s = t) => show numsS s = numsS t from by rw [h])
  have HKQ := Lib.hid (fun (h : s = t) => show keyS s = keyS t from by rw [h])
  have HBS := Lib.hid hbs
  generalize keyS s = k1 at *
  generalize keyS t = k2 at *
  generalize numsS s = l1 at *
  generalize numsS t = l2 at *
  clear hbs HV HU HII HJJ HWS HWT
  cases b with
  | true =>
    have hst := HBS.out.1 rfl
    have hl := HNQ.out hst
    have hk := HKQ.out hst
    subst hl hk
    clear HNI HKI HNQ HKQ HBS hst
    go_upto_region 5 with fail
    refine wp_region_held_drew (S := (fun w' => (w'.cell? ⟨w.heap.size, 0, none⟩ = some (.slice A1 s.mem.length c1) ∧ w'.cell? ⟨w.heap.size, 1, none⟩ = some (.slice A2 s.ths.length c2) ∧ w'.cell? ⟨w.heap.size + 1, 0, none⟩ = some (.slice A3 t.mem.length c3) ∧ w'.cell? ⟨w.heap.size + 1, 1, none⟩ = some (.slice A4 t.ths.length c4)) ∧ Below w4.heap.size w4 w')) (by kernel_rfl) ⟨⟨x0, x1, y0, y1⟩, below_drewN (Below.refl _ _) 1⟩ (fun hHeld => ?_)
    refine wpAnyH_take (i := 0) (v := ?_) rfl (by kernel_rfl) (by kernel_rfl) (by kernel_rfl) (fun _ _ _ h => h) (Or.inl ⟨by rfl, ?_⟩) (by assumption) ?_
    rotate_left
    · intro w hSw; (try dsimp only at hSw); go_simp; (try with_reducible rfl)
    (try simp only [Act.put, List.getElem_toArray, List.getElem_cons_zero, List.getElem_cons_succ, Array.getInternal_eq_getElem, List.setIfInBounds_toArray, List.set_cons_zero, List.set_cons_succ])
    refine wpAnyH_take (i := 1) (v := ?_) rfl (by kernel_rfl) (by kernel_rfl) (by kernel_rfl) (fun _ _ _ h => h) (Or.inl ⟨by rfl, ?_⟩) (by assumption) ?_
    rotate_left
    · intro w hSw; (try dsimp only at hSw); go_simp; (try with_reducible rfl)
    (try simp only [Act.put, List.getElem_toArray, List.getElem_cons_zero, List.getElem_cons_succ, Array.getInternal_eq_getElem, List.setIfInBounds_toArray, List.set_cons_zero, List.set_cons_succ])
    refine wpAnyH_take (i := 2) (v := ?_) rfl (by kernel_rfl) (by kernel_rfl) (by kernel_rfl) (fun _ _ _ h => h) (Or.inl ⟨by rfl, ?_⟩) (by assumption) ?_
    rotate_left
    · intro w hSw; (try dsimp only at hSw); go_simp; (try with_reducible rfl)
    (try simp only [Act.put, List.getElem_toArray, List.getElem_cons_zero, List.getElem_cons_succ, Array.getInternal_eq_getElem, List.setIfInBounds_toArray, List.set_cons_zero, List.set_cons_succ])
    refine wpAnyH_take (i := 4) (v := ?_) rfl (by kernel_rfl) (by kernel_rfl) (by kernel_rfl) (fun _ _ _ h => h) (Or.inl ⟨by rfl, ?_⟩) (by assumption) ?_
    rotate_left
    · intro w hSw; (try dsimp only at hSw); go_simp; (try with_reducible rfl)
    (try simp only [Act.put, List.getElem_toArray, List.getElem_cons_zero, List.getElem_cons_succ, Array.getInternal_eq_getElem, List.setIfInBounds_toArray, List.set_cons_zero, List.set_cons_succ])
    refine wpAnyH_take (i := 7) (v := ?_) rfl (by kernel_rfl) (by kernel_rfl) (by kernel_rfl) (fun _ _ _ h => h) (Or.inl ⟨by rfl, ?_⟩) (by assumption) ?_
    rotate_left
    · intro w hSw; (try dsimp only at hSw); go_simp; (try with_reducible rfl)
    (try simp only [Act.put, List.getElem_toArray, List.getElem_cons_zero, List.getElem_cons_succ, Array.getInternal_eq_getElem, List.setIfInBounds_toArray, List.set_cons_zero, List.set_cons_succ])
    refine wpAnyH_ready (rs := [3]) (by kernel_rfl) (by simp) ?_
    refine AllReadyH.cons rfl (fun K hK => ?_) AllReadyH.nil
    go_simp
    refine (HN1.out _ hHeld.2).mono ?_
    rintro e wa ⟨u1, rfl, hu1, hba⟩
    obtain ⟨B1, d1, rfl⟩ := own_slice hu1
    obtain ⟨q0, q1, q2, q3⟩ := hHeld.1
    refine hK.out _ _ ⟨⟨kc hba q0, kc hba q1, kc hba q2, kc hba q3⟩, chain hHeld.2 hba⟩ (fun hHeld => ?_)
    clear q0 q1 q2 q3
    clear hK K
    (try simp only [Act.put, List.getElem_toArray, List.getElem_cons_zero, List.getElem_cons_succ, Array.getInternal_eq_getElem, List.setIfInBounds_toArray, List.set_cons_zero, List.set_cons_succ])
    clear hba
    refine wpAnyH_ready (rs := [5]) (by kernel_rfl) (by simp) ?_
    refine AllReadyH.cons rfl (fun K hK => ?_) AllReadyH.nil
    go_simp
    refine (HN2.out _ hHeld.2).mono ?_
    rintro e wb ⟨u2, rfl, hu2, hba⟩
    replace hu1 := own_below hu1 hba
    obtain ⟨B2, d2, rfl⟩ := own_slice hu2
    obtain ⟨q0, q1, q2, q3⟩ := hHeld.1
    refine hK.out _ _ ⟨⟨kc hba q0, kc hba q1, kc hba q2, kc hba q3⟩, chain hHeld.2 hba⟩ (fun hHeld => ?_)
    clear q0 q1 q2 q3
    clear hK K
    (try simp only [Act.put, List.getElem_toArray, List.getElem_cons_zero, List.getElem_cons_succ, Array.getInternal_eq_getElem, List.setIfInBounds_toArray, List.set_cons_zero, List.set_cons_succ])
    clear hba
    refine wpAnyH_ready (rs := [6]) (by kernel_rfl) (by simp) ?_
    refine AllReadyH.cons rfl (fun K hK => ?_) AllReadyH.nil
    go_simp
    refine (nsame_any _ (Rw.own (one := nuC) (B := wb.heap.size) hu1 (Nat.le_refl _)) (Rw.own (one := nuC) (B := wb.heap.size) hu2 (Nat.le_refl _)) (Nat.le_refl _)).mono ?_
    rintro e wc ⟨rfl, hba⟩
    obtain ⟨q0, q1, q2, q3⟩ := hHeld.1
    refine hK.out _ _ ⟨⟨kc hba q0, kc hba q1, kc hba q2, kc hba q3⟩, chain hHeld.2 hba⟩ (fun hHeld => ?_)
    clear q0 q1 q2 q3
    clear hK K
    (try simp only [Act.put, List.getElem_toArray, List.getElem_cons_zero, List.getElem_cons_succ, Array.getInternal_eq_getElem, List.setIfInBounds_toArray, List.set_cons_zero, List.set_cons_succ])
    clear hba hu1 hu2
    refine wpAnyH_take (i := 8) (v := ?_) rfl (by kernel_rfl) (by kernel_rfl) (by kernel_rfl) (fun _ _ _ h => h) (Or.inl ⟨by rfl, ?_⟩) (by assumption) ?_
    rotate_left
    · intro w hSw; (try dsimp only at hSw); go_simp; (try with_reducible rfl)
    (try simp only [Act.put, List.getElem_toArray, List.getElem_cons_zero, List.getElem_cons_succ, Array.getInternal_eq_getElem, List.setIfInBounds_toArray, List.set_cons_zero, List.set_cons_succ])
    refine wpAnyH_take (i := 9) (v := ?_) rfl (by kernel_rfl) (by kernel_rfl) (by kernel_rfl) (fun _ _ _ h => h) (Or.inl ⟨by rfl, ?_⟩) (by assumption) ?_
    rotate_left
    · intro w hSw; (try dsimp only at hSw); go_simp; (try with_reducible rfl)
    (try simp only [Act.put, List.getElem_toArray, List.getElem_cons_zero, List.getElem_cons_succ, Array.getInternal_eq_getElem, List.setIfInBounds_toArray, List.set_cons_zero, List.set_cons_succ])
    refine wpAnyH_take (i := 10) (v := ?_) rfl (by kernel_rfl) (by kernel_rfl) (by kernel_rfl) (fun _ _ _ h => h) (Or.inl ⟨by rfl, ?_⟩) (by assumption) ?_
    rotate_left
    · intro w hSw; (try dsimp only at hSw); go_simp; (try with_reducible rfl)
    (try simp only [Act.put, List.getElem_toArray, List.getElem_cons_zero, List.getElem_cons_succ, Array.getInternal_eq_getElem, List.setIfInBounds_toArray, List.set_cons_zero, List.set_cons_succ])
    refine wpAnyH_take (i := 11) (v := ?_) rfl (by kernel_rfl) (by kernel_rfl) (by kernel_rfl) (fun _ _ _ h => h) (Or.inl ⟨by rfl, ?_⟩) (by assumption) ?_
    rotate_left
    · intro w hSw; (try dsimp only at hSw); go_simp; (try with_reducible rfl)
    (try simp only [Act.put, List.getElem_toArray, List.getElem_cons_zero, List.getElem_cons_succ, Array.getInternal_eq_getElem, List.setIfInBounds_toArray, List.set_cons_zero, List.set_cons_succ])
    refine wpAnyH_take (i := 13) (v := ?_) rfl (by kernel_rfl) (by kernel_rfl) (by kernel_rfl) (fun _ _ _ h => h) (Or.inl ⟨by rfl, ?_⟩) (by assumption) ?_
    rotate_left
    · intro w hSw; (try dsimp only at hSw); go_simp; (try with_reducible rfl)
    (try simp only [Act.put, List.getElem_toArray, List.getElem_cons_zero, List.getElem_cons_succ, Array.getInternal_eq_getElem, List.setIfInBounds_toArray, List.set_cons_zero, List.set_cons_succ])
    refine wpAnyH_take (i := 16) (v := ?_) rfl (by kernel_rfl) (by kernel_rfl) (by kernel_rfl) (fun _ _ _ h => h) (Or.inl ⟨by rfl, ?_⟩) (by assumption) ?_
    rotate_left
    · intro w hSw; (try dsimp only at hSw); go_simp; (try with_reducible rfl)
    (try simp only [Act.put, List.getElem_toArray, List.getElem_cons_zero, List.getElem_cons_succ, Array.getInternal_eq_getElem, List.setIfInBounds_toArray, List.set_cons_zero, List.set_cons_succ])
    refine wpAnyH_ready (rs := [12]) (by kernel_rfl) (by simp) ?_
    refine AllReadyH.cons rfl (fun K hK => ?_) AllReadyH.nil
    go_simp
    refine (HK1.out _ hHeld.2).mono ?_
    rintro e wd ⟨rfl, hba⟩
    obtain ⟨q0, q1, q2, q3⟩ := hHeld.1
    refine hK.out _ _ ⟨⟨kc hba q0, kc hba q1, kc hba q2, kc hba q3⟩, chain hHeld.2 hba⟩ (fun hHeld => ?_)
    clear q0 q1 q2 q3
    clear hK K
    (try simp only [Act.put, List.getElem_toArray, List.getElem_cons_zero, List.getElem_cons_succ, Array.getInternal_eq_getElem, List.setIfInBounds_toArray, List.set_cons_zero, List.set_cons_succ])
    clear hba
    refine wpAnyH_ready (rs := [14]) (by kernel_rfl) (by simp) ?_
    refine AllReadyH.cons rfl (fun K hK => ?_) AllReadyH.nil
    go_simp
    refine (HK2.out _ hHeld.2).mono ?_
    rintro e we ⟨rfl, hba⟩
    obtain ⟨q0, q1, q2, q3⟩ := hHeld.1
    refine hK.out _ _ ⟨⟨kc hba q0, kc hba q1, kc hba q2, kc hba q3⟩, chain hHeld.2 hba⟩ (fun hHeld => ?_)
    clear q0 q1 q2 q3
    clear hK K
    (try simp only [Act.put, List.getElem_toArray, List.getElem_cons_zero, List.getElem_cons_succ, Array.getInternal_eq_getElem, List.setIfInBounds_toArray, List.set_cons_zero, List.set_cons_succ])
    clear hba
    refine wpAnyH_take (i := 15) (v := ?_) rfl (by kernel_rfl) (by kernel_rfl) (by kernel_rfl) (fun _ _ _ h => h) (Or.inl ⟨by rfl, ?_⟩) (by assumption) ?_
    rotate_left
    · intro w hSw; (try dsimp only at hSw); go_simp; (try with_reducible rfl)
    (try simp only [Act.put, List.getElem_toArray, List.getElem_cons_zero, List.getElem_cons_succ, Array.getInternal_eq_getElem, List.setIfInBounds_toArray, List.set_cons_zero, List.set_cons_succ])
    refine wpAnyH_take (i := 17) (v := ?_) rfl (by kernel_rfl) (by kernel_rfl) (by kernel_rfl) (fun _ _ _ h => h) (Or.inl ⟨by rfl, ?_⟩) (by assumption) ?_
    rotate_left
    · intro w hSw; (try dsimp only at hSw); go_simp; (try with_reducible rfl)
    (try simp only [Act.put, List.getElem_toArray, List.getElem_cons_zero, List.getElem_cons_succ, Array.getInternal_eq_getElem, List.setIfInBounds_toArray, List.set_cons_zero, List.set_cons_succ])
    refine wpAnyH_take (i := 18) (v := ?_) rfl (by kernel_rfl) (by kernel_rfl) (by kernel_rfl) (fun _ _ _ h => h) (Or.inl ⟨by rfl, ?_⟩) (by assumption) ?_
    rotate_left
    · intro w hSw; (try dsimp only at hSw); go_simp; (try with_reducible rfl)
    (try simp only [Act.put, List.getElem_toArray, List.getElem_cons_zero, List.getElem_cons_succ, Array.getInternal_eq_getElem, List.setIfInBounds_toArray, List.set_cons_zero, List.set_cons_succ])
    refine wpAnyH_take (i := 19) (v := ?_) rfl (by kernel_rfl) (by kernel_rfl) (by kernel_rfl) (fun _ _ _ h => h) (Or.inl ⟨by rfl, ?_⟩) (by assumption) ?_
    rotate_left
    · intro w hSw; (try dsimp only at hSw); go_simp; (try with_reducible rfl)
    (try simp only [Act.put, List.getElem_toArray, List.getElem_cons_zero, List.getElem_cons_succ, Array.getInternal_eq_getElem, List.setIfInBounds_toArray, List.set_cons_zero, List.set_cons_succ])
    refine wpAnyH_done (by kernel_rfl) ?_ _
    have hBE := hB4.trans (hHeld.2.mono hB4.size)
    clear hHeld
    go_wp2
    go_ret
    exact ⟨rfl, hBE⟩
  | false =>
    have HNE := Lib.hid (HNI.out (fun h => by have := HBS.out.2 h; cases this))
    have hk := HKI.out (fun h => by have := HBS.out.2 h; cases this)
    have q1 : (k1 == k2) = false := beq_eq_false_iff_ne.2 hk
    clear HNI HKI HNQ HKQ HBS hk
    go_upto_region 5 with fail
    refine wp_region_held_drew (S := (fun w' => (w'.cell? ⟨w.heap.size, 0, none⟩ = some (.slice A1 s.mem.length c1) ∧ w'.cell? ⟨w.heap.size, 1, none⟩ = some (.slice A2 s.ths.length c2) ∧ w'.cell? ⟨w.heap.size + 1, 0, none⟩ = some (.slice A3 t.mem.length c3) ∧ w'.cell? ⟨w.heap.size + 1, 1, none⟩ = some (.slice A4 t.ths.length c4)) ∧ Below w4.heap.size w4 w')) (by kernel_rfl) ⟨⟨x0, x1, y0, y1⟩, below_drewN (Below.refl _ _) 1⟩ (fun hHeld => ?_)
    refine wpAnyH_take (i := 0) (v := ?_) rfl (by kernel_rfl) (by kernel_rfl) (by kernel_rfl) (fun _ _ _ h => h) (Or.inl ⟨by rfl, ?_⟩) (by assumption) ?_
    rotate_left
    · intro w hSw; (try dsimp only at hSw); go_simp; (try with_reducible rfl)
    (try simp only [Act.put, List.getElem_toArray, List.getElem_cons_zero, List.getElem_cons_succ, Array.getInternal_eq_getElem, List.setIfInBounds_toArray, List.set_cons_zero, List.set_cons_succ])
    refine wpAnyH_take (i := 1) (v := ?_) rfl (by kernel_rfl) (by kernel_rfl) (by kernel_rfl) (fun _ _ _ h => h) (Or.inl ⟨by rfl, ?_⟩) (by assumption) ?_
    rotate_left
    · intro w hSw; (try dsimp only at hSw); go_simp; (try with_reducible rfl)
    (try simp only [Act.put, List.getElem_toArray, List.getElem_cons_zero, List.getElem_cons_succ, Array.getInternal_eq_getElem, List.setIfInBounds_toArray, List.set_cons_zero, List.set_cons_succ])
    refine wpAnyH_take (i := 2) (v := ?_) rfl (by kernel_rfl) (by kernel_rfl) (by kernel_rfl) (fun _ _ _ h => h) (Or.inl ⟨by rfl, ?_⟩) (by assumption) ?_
    rotate_left
    · intro w hSw; (try dsimp only at hSw); go_simp; (try with_reducible rfl)
    (try simp only [Act.put, List.getElem_toArray, List.getElem_cons_zero, List.getElem_cons_succ, Array.getInternal_eq_getElem, List.setIfInBounds_toArray, List.set_cons_zero, List.set_cons_succ])
    refine wpAnyH_take (i := 4) (v := ?_) rfl (by kernel_rfl) (by kernel_rfl) (by kernel_rfl) (fun _ _ _ h => h) (Or.inl ⟨by rfl, ?_⟩) (by assumption) ?_
    rotate_left
    · intro w hSw; (try dsimp only at hSw); go_simp; (try with_reducible rfl)
    (try simp only [Act.put, List.getElem_toArray, List.getElem_cons_zero, List.getElem_cons_succ, Array.getInternal_eq_getElem, List.setIfInBounds_toArray, List.set_cons_zero, List.set_cons_succ])
    refine wpAnyH_take (i := 7) (v := ?_) rfl (by kernel_rfl) (by kernel_rfl) (by kernel_rfl) (fun _ _ _ h => h) (Or.inl ⟨by rfl, ?_⟩) (by assumption) ?_
    rotate_left
    · intro w hSw; (try dsimp only at hSw); go_simp; (try with_reducible rfl)
    (try simp only [Act.put, List.getElem_toArray, List.getElem_cons_zero, List.getElem_cons_succ, Array.getInternal_eq_getElem, List.setIfInBounds_toArray, List.set_cons_zero, List.set_cons_succ])
    refine wpAnyH_ready (rs := [3]) (by kernel_rfl) (by simp) ?_
    refine AllReadyH.cons rfl (fun K hK => ?_) AllReadyH.nil
    go_simp
    refine (HN1.out _ hHeld.2).mono ?_
    rintro e wa ⟨u1, rfl, hu1, hba⟩
    obtain ⟨B1, d1, rfl⟩ := own_slice hu1
    obtain ⟨q0, q1, q2, q3⟩ := hHeld.1
    refine hK.out _ _ ⟨⟨kc hba q0, kc hba q1, kc hba q2, kc hba q3⟩, chain hHeld.2 hba⟩ (fun hHeld => ?_)
    clear q0 q1 q2 q3
    clear hK K
    (try simp only [Act.put, List.getElem_toArray, List.getElem_cons_zero, List.getElem_cons_succ, Array.getInternal_eq_getElem, List.setIfInBounds_toArray, List.set_cons_zero, List.set_cons_succ])
    clear hba
    refine wpAnyH_ready (rs := [5]) (by kernel_rfl) (by simp) ?_
    refine AllReadyH.cons rfl (fun K hK => ?_) AllReadyH.nil
    go_simp
    refine (HN2.out _ hHeld.2).mono ?_
    rintro e wb ⟨u2, rfl, hu2, hba⟩
    replace hu1 := own_below hu1 hba
    obtain ⟨B2, d2, rfl⟩ := own_slice hu2
    obtain ⟨q0, q1, q2, q3⟩ := hHeld.1
    refine hK.out _ _ ⟨⟨kc hba q0, kc hba q1, kc hba q2, kc hba q3⟩, chain hHeld.2 hba⟩ (fun hHeld => ?_)
    clear q0 q1 q2 q3
    clear hK K
    (try simp only [Act.put, List.getElem_toArray, List.getElem_cons_zero, List.getElem_cons_succ, Array.getInternal_eq_getElem, List.setIfInBounds_toArray, List.set_cons_zero, List.set_cons_succ])
    clear hba
    refine wpAnyH_ready (rs := [6]) (by kernel_rfl) (by simp) ?_
    refine AllReadyH.cons rfl (fun K hK => ?_) AllReadyH.nil
    go_simp
    refine (nsame_dec _ (Rw.own (one := nuC) (B := wb.heap.size) hu1 (Nat.le_refl _)) (Rw.own (one := nuC) (B := wb.heap.size) hu2 (Nat.le_refl _)) (Nat.le_refl _)).mono ?_
    rintro e wc ⟨bb, rfl, hbi, hba⟩
    obtain rfl : bb = false := by cases bb; rfl; exact absurd (hbi.1 rfl) HNE.out
    obtain ⟨q0, q1, q2, q3⟩ := hHeld.1
    refine hK.out _ _ ⟨⟨kc hba q0, kc hba q1, kc hba q2, kc hba q3⟩, chain hHeld.2 hba⟩ (fun hHeld => ?_)
    clear q0 q1 q2 q3
    clear hK K
    (try simp only [Act.put, List.getElem_toArray, List.getElem_cons_zero, List.getElem_cons_succ, Array.getInternal_eq_getElem, List.setIfInBounds_toArray, List.set_cons_zero, List.set_cons_succ])
    clear hba hu1 hu2 hbi
    refine wpAnyH_take (i := 8) (v := ?_) rfl (by kernel_rfl) (by kernel_rfl) (by kernel_rfl) (fun _ _ _ h => h) (Or.inl ⟨by rfl, ?_⟩) (by assumption) ?_
    rotate_left
    · intro w hSw; (try dsimp only at hSw); go_simp; (try with_reducible rfl)
    (try simp only [Act.put, List.getElem_toArray, List.getElem_cons_zero, List.getElem_cons_succ, Array.getInternal_eq_getElem, List.setIfInBounds_toArray, List.set_cons_zero, List.set_cons_succ])
    refine wpAnyH_take (i := 9) (v := ?_) rfl (by kernel_rfl) (by kernel_rfl) (by kernel_rfl) (fun _ _ _ h => h) (Or.inl ⟨by rfl, ?_⟩) (by assumption) ?_
    rotate_left
    · intro w hSw; (try dsimp only at hSw); go_simp; (try with_reducible rfl)
    (try simp only [Act.put, List.getElem_toArray, List.getElem_cons_zero, List.getElem_cons_succ, Array.getInternal_eq_getElem, List.setIfInBounds_toArray, List.set_cons_zero, List.set_cons_succ])
    refine wpAnyH_take (i := 10) (v := ?_) rfl (by kernel_rfl) (by kernel_rfl) (by kernel_rfl) (fun _ _ _ h => h) (Or.inl ⟨by rfl, ?_⟩) (by assumption) ?_
    rotate_left
    · intro w hSw; (try dsimp only at hSw); go_simp; (try with_reducible rfl)
    (try simp only [Act.put, List.getElem_toArray, List.getElem_cons_zero, List.getElem_cons_succ, Array.getInternal_eq_getElem, List.setIfInBounds_toArray, List.set_cons_zero, List.set_cons_succ])
    refine wpAnyH_take (i := 11) (v := ?_) rfl (by kernel_rfl) (by kernel_rfl) (by kernel_rfl) (fun _ _ _ h => h) (Or.inl ⟨by rfl, ?_⟩) (by assumption) ?_
    rotate_left
    · intro w hSw; (try dsimp only at hSw); go_simp; (try with_reducible rfl)
    (try simp only [Act.put, List.getElem_toArray, List.getElem_cons_zero, List.getElem_cons_succ, Array.getInternal_eq_getElem, List.setIfInBounds_toArray, List.set_cons_zero, List.set_cons_succ])
    refine wpAnyH_take (i := 13) (v := ?_) rfl (by kernel_rfl) (by kernel_rfl) (by kernel_rfl) (fun _ _ _ h => h) (Or.inl ⟨by rfl, ?_⟩) (by assumption) ?_
    rotate_left
    · intro w hSw; (try dsimp only at hSw); go_simp; (try with_reducible rfl)
    (try simp only [Act.put, List.getElem_toArray, List.getElem_cons_zero, List.getElem_cons_succ, Array.getInternal_eq_getElem, List.setIfInBounds_toArray, List.set_cons_zero, List.set_cons_succ])
    refine wpAnyH_take (i := 16) (v := ?_) rfl (by kernel_rfl) (by kernel_rfl) (by kernel_rfl) (fun _ _ _ h => h) (Or.inl ⟨by rfl, ?_⟩) (by assumption) ?_
    rotate_left
    · intro w hSw; (try dsimp only at hSw); go_simp; (try with_reducible rfl)
    (try simp only [Act.put, List.getElem_toArray, List.getElem_cons_zero, List.getElem_cons_succ, Array.getInternal_eq_getElem, List.setIfInBounds_toArray, List.set_cons_zero, List.set_cons_succ])
    refine wpAnyH_ready (rs := [12]) (by kernel_rfl) (by simp) ?_
    refine AllReadyH.cons rfl (fun K hK => ?_) AllReadyH.nil
    go_simp
    refine (HK1.out _ hHeld.2).mono ?_
    rintro e wd ⟨rfl, hba⟩
    obtain ⟨q0, q1, q2, q3⟩ := hHeld.1
    refine hK.out _ _ ⟨⟨kc hba q0, kc hba q1, kc hba q2, kc hba q3⟩, chain hHeld.2 hba⟩ (fun hHeld => ?_)
    clear q0 q1 q2 q3
    clear hK K
    (try simp only [Act.put, List.getElem_toArray, List.getElem_cons_zero, List.getElem_cons_succ, Array.getInternal_eq_getElem, List.setIfInBounds_toArray, List.set_cons_zero, List.set_cons_succ])
    clear hba
    refine wpAnyH_ready (rs := [14]) (by kernel_rfl) (by simp) ?_
    refine AllReadyH.cons rfl (fun K hK => ?_) AllReadyH.nil
    go_simp
    refine (HK2.out _ hHeld.2).mono ?_
    rintro e we ⟨rfl, hba⟩
    obtain ⟨q0, q1, q2, q3⟩ := hHeld.1
    refine hK.out _ _ ⟨⟨kc hba q0, kc hba q1, kc hba q2, kc hba q3⟩, chain hHeld.2 hba⟩ (fun hHeld => ?_)
    clear q0 q1 q2 q3
    clear hK K
    (try simp only [Act.put, List.getElem_toArray, List.getElem_cons_zero, List.getElem_cons_succ, Array.getInternal_eq_getElem, List.setIfInBounds_toArray, List.set_cons_zero, List.set_cons_succ])
    clear hba
    refine wpAnyH_take (i := 15) (v := ?_) rfl (by kernel_rfl) (by kernel_rfl) (by kernel_rfl) (fun _ _ _ h => h) (Or.inl ⟨by rfl, ?_⟩) (by assumption) ?_
    rotate_left
    · intro w hSw; (try dsimp only at hSw); go_simp; (try with_reducible rfl)
    (try simp only [Act.put, List.getElem_toArray, List.getElem_cons_zero, List.getElem_cons_succ, Array.getInternal_eq_getElem, List.setIfInBounds_toArray, List.set_cons_zero, List.set_cons_succ])
    refine wpAnyH_take (i := 17) (v := ?_) rfl (by kernel_rfl) (by kernel_rfl) (by kernel_rfl) (fun _ _ _ h => h) (Or.inl ⟨by rfl, ?_⟩) (by assumption) ?_
    rotate_left
    · intro w hSw; (try dsimp only at hSw); go_simp; (try with_reducible rfl)
    (try simp only [Act.put, List.getElem_toArray, List.getElem_cons_zero, List.getElem_cons_succ, Array.getInternal_eq_getElem, List.setIfInBounds_toArray, List.set_cons_zero, List.set_cons_succ])
    refine wpAnyH_take (i := 18) (v := ?_) rfl (by kernel_rfl) (by kernel_rfl) (by kernel_rfl) (fun _ _ _ h => h) (Or.inl ⟨by rfl, ?_⟩) (by assumption) ?_
    rotate_left
    · intro w hSw; (try dsimp only at hSw); go_simp; (try with_reducible rfl)
    (try simp only [Act.put, List.getElem_toArray, List.getElem_cons_zero, List.getElem_cons_succ, Array.getInternal_eq_getElem, List.setIfInBounds_toArray, List.set_cons_zero, List.set_cons_succ])
    refine wpAnyH_take (i := 19) (v := ?_) rfl (by kernel_rfl) (by kernel_rfl) (by kernel_rfl) (fun _ _ _ h => h) (Or.inl ⟨by rfl, ?_⟩) (by assumption) ?_
    rotate_left
    · intro w hSw; (try dsimp only at hSw); go_simp; (try with_reducible rfl)
    (try simp only [Act.put, List.getElem_toArray, List.getElem_cons_zero, List.getElem_cons_succ, Array.getInternal_eq_getElem, List.setIfInBounds_toArray, List.set_cons_zero, List.set_cons_succ])
    refine wpAnyH_done (by kernel_rfl) ?_ _
    have hBE := hB4.trans (hHeld.2.mono hB4.size)
    clear hHeld
    go_wp2
    go_ret
    exact ⟨rfl, hBE⟩
end Go.Proofs.YtmpjcfehabnhgaaDoor
