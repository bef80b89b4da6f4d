/-
  SlotsCode, as a walk: it returns true.
-/
import Derived.Test.YtaelfjphgdlbcaaSBk
import Derived.Test.YtaelfjphgdlbcaaSlY2
import Derived.Test.YtaelfjphgdlbcaaRCo
import Derived.Test.YtaelfjphgdlbcaaK41
import Derived.Deep.RegionHeld3
namespace Go.Proofs.Ytaelfjphgdlbcaa
open Go.RowKit
set_option linter.unusedVariables false
set_option linter.unusedSimpArgs false
open WordM (L)
open VM
open CodM (St Pg hasS)
open SlM

set_option maxHeartbeats 8000000 in
set_option maxRecDepth 100000 in
theorem sco_law {v vg : Value} {F : Fl} {g : List Int} (w : World) (hv : FlV w.heap.size w v F) (hg : Ints w.heap.size w vg g) (hi : IntsOk F) :
    Calls Try.prog 7 #[v, vg] w fun e w' => e = .returned (.bool true) ∧ Below w.heap.size w w' := by
  obtain ⟨vi, vt, vc, rfl, hm⟩ := hv
  have HI := Lib.hid hi
  clear hi
  have HHd := Lib.hid (fun W => shead_any W)
  have HV := Lib.hid (fun W (hW : Below w.heap.size w W) => show FlV W.heap.size W (flv ⟨F.name.toArray⟩ vi vt vc F.all) F from ⟨vi, vt, vc, rfl, (hm.below hW).more hW.size⟩)
  have HG := Lib.hid (fun W (hW : Below w.heap.size w W) => show Ints W.heap.size W vg g from (hg.below hW).more hW.size)
  have HGF := Lib.hid (fun W (hW : Below w.heap.size w W) => vgreat_any W (HV.out W hW) (Nat.le_refl _))
  obtain ⟨⟨A0, c0, rfl, -⟩, ⟨A2, c2, rfl, -⟩, ⟨A1, c1, rfl, -⟩⟩ := hm
  obtain ⟨AG, cg, rfl, hg1, hg2, -⟩ := hg
  unfold flv at *
  unfold maxLen at hg2
  have hB := below_al (Below.refl w.heap.size w) (.cells #[.string ⟨F.name.toArray⟩, .slice A0 F.init.length c0, .slice A2 F.ths.length c2, .bool F.all, .slice A1 F.cond.length c1] 30)
  have hbx := Lib.hid (FlBox.at (w := w) rfl ⟨F.name.toArray⟩ (.slice A0 F.init.length c0) (.slice A2 F.ths.length c2) (.slice A1 F.cond.length c1) F.all 30)
  obtain ⟨t0, t1, t2, t3, t4⟩ := hbx.out
  go_enter Try.func7, Try.ntmps7
  go_wp2_with fail
  refine (HHd.out _).mono ?_
  rintro e w1 ⟨rfl, hbb⟩
  replace hB := chain hB hbb
  replace hbx := Lib.hid (hbx.out.below hbb)
  clear t0 t1 t2 t3 t4 hbb HHd
  obtain ⟨t0, t1, t2, t3, t4⟩ := hbx.out
  go_wp2_with fail
  refine (HGF.out _ hB).mono ?_
  rintro e w2 ⟨gb, rfl, hsx, hbb⟩
  replace hB := chain hB hbb
  replace hbx := Lib.hid (hbx.out.below hbb)
  clear t0 t1 t2 t3 t4 hbb HGF
  obtain ⟨t0, t1, t2, t3, t4⟩ := hbx.out
  cases gb
  case true =>
    go_wp2
    go_ret
    exact ⟨rfl, hB⟩
  have HS := Lib.hid (hsx rfl)
  clear hsx
  by_cases hgl : 100 < g.length
  · have q : decide (100 < g.length) = true := decide_eq_true hgl
    go_wp2
    go_ret
    exact ⟨rfl, hB⟩
  have q : decide (100 < g.length) = false := decide_eq_false hgl
  have HGL := Lib.hid (show g.length ≤ 1000000 from by omega)
  have HSA := Lib.hid (small_a HS.out)
  have HOK := Lib.hid (HS.out.ok HI.out)
  have HRF := Lib.hid (fun W (hW : Below w.heap.size w W) => rvright_any W (HV.out W hW) (Nat.le_refl _) HOK.out)
  go_wp2_with fail
  refine (HRF.out _ hB).mono ?_
  rintro e w3 ⟨rfl, hbb⟩
  replace hB := chain hB hbb
  replace hbx := Lib.hid (hbx.out.below hbb)
  clear t0 t1 t2 t3 t4 hbb
  obtain ⟨t0, t1, t2, t3, t4⟩ := hbx.out
  clear HRF
  by_cases hr : VM.right F = true
  case neg =>
    rw [Bool.not_eq_true] at hr
    rw [hr]
    go_wp2
    go_ret
    exact ⟨rfl, hB⟩
  have HR := Lib.hid hr
  rw [hr]
  clear hr
  have HFN := Lib.hid (fence_any (F := F) (g := g) _ (HV.out _ hB) (HG.out _ hB) (Nat.le_refl _) HSA.out.l HSA.out.s HGL.out HSA.out.i HSA.out.c)
  go_wp2_with fail
  refine HFN.out.mono ?_
  rintro e w4 ⟨u, rfl, hF4, hbb⟩
  replace hB := chain hB hbb
  replace hbx := Lib.hid (hbx.out.below hbb)
  clear t0 t1 t2 t3 t4 hbb
  obtain ⟨t0, t1, t2, t3, t4⟩ := hbx.out
  have HSE := Lib.hid (small_fenF g HS.out HR.out)
  have HIE := Lib.hid (show IntsOk (fenF F g) from HI.out)
  have HCE := Lib.hid (fun h => code_fen (F := F) (g := g) HR.out h)
  obtain ⟨E, hE⟩ : ∃ E, E = fenF F g := ⟨_, rfl⟩
  rw [← hE] at hF4 HSE HIE HCE
  have HF4 := Lib.hid hF4
  obtain ⟨vi4, vt4, vc4, rfl, ⟨A3, c3, rfl, -⟩, ⟨A4, c4, rfl, -⟩, ⟨A5, c5, rfl, -⟩⟩ := hF4
  clear hE HFN HSA
  unfold flv at *
  go_upto_region 5 with fail
  have hbb := below_al (Below.refl w4.heap.size w4) (.cells #[.string ⟨E.name.toArray⟩, .slice A3 E.init.length c3, .slice A4 E.ths.length c4, .bool E.all, .slice A5 E.cond.length c5] 30)
  have hb1 := Lib.hid (FlBox.at (w := w4) rfl ⟨E.name.toArray⟩ (.slice A3 E.init.length c3) (.slice A4 E.ths.length c4) (.slice A5 E.cond.length c5) E.all 30)
  replace HF4 := Lib.hid ((HF4.out.below hbb).more hbb.size)
  replace hB := chain hB hbb
  replace hbx := Lib.hid (hbx.out.below hbb)
  clear t0 t1 t2 t3 t4
  generalize w4.alloc (.cells #[.string ⟨E.name.toArray⟩, .slice A3 E.init.length c3, .slice A4 E.ths.length c4, .bool E.all, .slice A5 E.cond.length c5] 30) = w5 at *
  clear hbb
  obtain ⟨g1, hg1'⟩ : ∃ g, g = w4.heap.size := ⟨_, rfl⟩
  rw [← hg1'] at hb1 ⊢
  clear hg1'
  obtain ⟨t0, t1, t2, t3, t4⟩ := hbx.out
  have HC1 := Lib.hid (rcode7_any (F := F) w5 (HV.out _ hB) (Nat.le_refl _) HOK.out HS.out)
  go_wp2_with fail
  refine HC1.out.mono ?_
  rintro e w6 ⟨vi6, vt6, rfl, hP6, hbb⟩
  have HP6 := Lib.hid hP6
  have HRC := Lib.hid (cod_b (CodM.code_right HR.out))
  obtain ⟨P, hP⟩ : ∃ P, P = CodM.codP F := ⟨_, rfl⟩
  rw [← hP] at hP6 HP6 HCE HRC
  obtain ⟨⟨Q0, d0, rfl, -⟩, ⟨Q1, d1, rfl, -⟩⟩ := hP6
  have HC0 := Lib.hid (show CodM.codE F = 0 from by unfold CodM.codE; rw [if_pos HR.out])
  rw [HC0.out]
  replace hB := chain hB hbb
  replace hb1 := Lib.hid (hb1.out.below hbb)
  replace HF4 := Lib.hid ((HF4.out.below hbb).more hbb.size)
  clear t0 t1 t2 t3 t4 hbb HC1 hP hbx
  go_upto_region 6 with fail
  have hbb := below_al (Below.refl w6.heap.size w6) (.cells #[.slice Q0 P.init.length d0, .slice Q1 P.ths.length d1] 25)
  have HPX := Lib.hid (PgBox.at (w := w6) rfl (.slice Q0 P.init.length d0) (.slice Q1 P.ths.length d1) 25)
  replace HP6 := Lib.hid ((HP6.out.below hbb).more hbb.size)
  replace HF4 := Lib.hid ((HF4.out.below hbb).more hbb.size)
  replace hB := chain hB hbb
  replace hb1 := Lib.hid (hb1.out.below hbb)
  generalize w6.alloc (.cells #[.slice Q0 P.init.length d0, .slice Q1 P.ths.length d1] 25) = w7 at *
  clear hbb
  obtain ⟨g2, hg2'⟩ : ∃ g, g = w6.heap.size := ⟨_, rfl⟩
  rw [← hg2'] at HPX ⊢
  clear hg2'
  obtain ⟨s0, s1, s2, s3, s4⟩ := hb1.out
  have HC2 := Lib.hid (rcode7_any (F := E) w7 HF4.out (Nat.le_refl _) (HSE.out.ok HIE.out) HSE.out)
  go_wp2_with fail
  refine HC2.out.mono ?_
  rintro e w8 ⟨vi8, vt8, rfl, hP8, hbb⟩
  have HP8 := Lib.hid hP8
  obtain ⟨⟨Q2, d2, rfl, -⟩, ⟨Q3, d3, rfl, -⟩⟩ := hP8
  replace hB := chain hB hbb
  replace hb1 := Lib.hid (hb1.out.below hbb)
  replace HPX := Lib.hid (HPX.out.below hbb)
  replace HF4 := Lib.hid ((HF4.out.below hbb).more hbb.size)
  replace HP6 := Lib.hid ((HP6.out.below hbb).more hbb.size)
  clear s0 s1 s2 s3 s4 hbb HC2
  obtain ⟨K, hK⟩ : ∃ K, K = CodM.codP E := ⟨_, rfl⟩
  rw [← hK] at HP8 HCE ⊢
  clear hK
  by_cases hq : VM.right E = true
  case neg =>
    have HC3 := Lib.hid (show CodM.codE E = 1 from by unfold CodM.codE; rw [if_neg hq])
    rw [Bool.not_eq_true] at hq
    have HQ := Lib.hid hq
    rw [HC3.out]
    clear hq
    go_upto_region 8 with fail
    have hbb := below_al (Below.refl w8.heap.size w8) (.cells #[.slice Q2 K.init.length d2, .slice Q3 K.ths.length d3] 25)
    replace HF4 := Lib.hid ((HF4.out.below hbb).more hbb.size)
    replace hB := chain hB hbb
    replace hb1 := Lib.hid (hb1.out.below hbb)
    generalize w8.alloc (.cells #[.slice Q2 K.init.length d2, .slice Q3 K.ths.length d3] 25) = w9 at *
    clear hbb
    obtain ⟨s0, s1, s2, s3, s4⟩ := hb1.out
    have HRE := Lib.hid (rvright_any (F := E) w9 HF4.out (Nat.le_refl _) (HSE.out.ok HIE.out))
    go_wp2_with fail
    refine HRE.out.mono ?_
    rintro e w10 ⟨rfl, hbb⟩
    rw [HQ.out]
    have HBF := Lib.hid (chain hB hbb)
    clear hB hbb s0 s1 s2 s3 s4
    go_wp2
    go_ret
    exact ⟨rfl, HBF.out⟩
  have HC3 := Lib.hid (show CodM.codE E = 0 from by unfold CodM.codE; rw [if_pos hq])
  have HKE := Lib.hid (HCE.out hq)
  rw [HC3.out]
  clear hq HCE
  go_upto_region 9 with fail
  have hbb := below_al (Below.refl w8.heap.size w8) (.cells #[.slice Q2 K.init.length d2, .slice Q3 K.ths.length d3] 25)
  have HKX := Lib.hid (PgBox.at (w := w8) rfl (.slice Q2 K.init.length d2) (.slice Q3 K.ths.length d3) 25)
  replace HP6 := Lib.hid ((HP6.out.below hbb).more hbb.size)
  replace HP8 := Lib.hid ((HP8.out.below hbb).more hbb.size)
  replace hB := chain hB hbb
  replace HPX := Lib.hid (HPX.out.below hbb)
  generalize w8.alloc (.cells #[.slice Q2 K.init.length d2, .slice Q3 K.ths.length d3] 25) = w9 at *
  clear hbb
  obtain ⟨g3, hg3'⟩ : ∃ g, g = w8.heap.size := ⟨_, rfl⟩
  rw [← hg3'] at HKX ⊢
  clear hg3'
  obtain ⟨x0, x1⟩ := HPX.out
  obtain ⟨y0, y1⟩ := HKX.out
  have HB9 := Lib.hid hB
  clear hB
  refine wp_region_held_drew (S := (fun w' => (w'.cell? ⟨g2, 0, none⟩ = some (.slice Q0 P.init.length d0) ∧ w'.cell? ⟨g2, 1, none⟩ = some (.slice Q1 P.ths.length d1) ∧ w'.cell? ⟨g3, 0, none⟩ = some (.slice Q2 K.init.length d2) ∧ w'.cell? ⟨g3, 1, none⟩ = some (.slice Q3 K.ths.length d3)) ∧ Below w9.heap.size w9 w')) (by kernel_rfl) ⟨⟨x0, x1, y0, y1⟩, below_drewN (Below.refl _ _) 1⟩ (fun hHeld => ?_)
  refine wpAnyH_take (i := 0) (v := ?_) rfl (by kernel_rfl) (by kernel_rfl) (by kernel_rfl) (fun _ _ _ h => h) (Or.inl ⟨by rfl, ?_⟩) (by assumption) ?_
  rotate_left
  · intro w hSw; (try dsimp only at hSw); go_simp; (try with_reducible rfl)
  (try simp only [Act.put, List.getElem_toArray, List.getElem_cons_zero, List.getElem_cons_succ, Array.getInternal_eq_getElem, List.setIfInBounds_toArray, List.set_cons_zero, List.set_cons_succ])
  refine wpAnyH_take (i := 1) (v := ?_) rfl (by kernel_rfl) (by kernel_rfl) (by kernel_rfl) (fun _ _ _ h => h) (Or.inl ⟨by rfl, ?_⟩) (by assumption) ?_
  rotate_left
  · intro w hSw; (try dsimp only at hSw); go_simp; (try with_reducible rfl)
  (try simp only [Act.put, List.getElem_toArray, List.getElem_cons_zero, List.getElem_cons_succ, Array.getInternal_eq_getElem, List.setIfInBounds_toArray, List.set_cons_zero, List.set_cons_succ])
  refine wpAnyH_take (i := 2) (v := ?_) rfl (by kernel_rfl) (by kernel_rfl) (by kernel_rfl) (fun _ _ _ h => h) (Or.inl ⟨by rfl, ?_⟩) (by assumption) ?_
  rotate_left
  · intro w hSw; (try dsimp only at hSw); go_simp; (try with_reducible rfl)
  (try simp only [Act.put, List.getElem_toArray, List.getElem_cons_zero, List.getElem_cons_succ, Array.getInternal_eq_getElem, List.setIfInBounds_toArray, List.set_cons_zero, List.set_cons_succ])
  refine wpAnyH_take (i := 3) (v := ?_) rfl (by kernel_rfl) (by kernel_rfl) (by kernel_rfl) (fun _ _ _ h => h) (Or.inl ⟨by rfl, ?_⟩) (by assumption) ?_
  rotate_left
  · intro w hSw; (try dsimp only at hSw); go_simp; (try with_reducible rfl)
  (try simp only [Act.put, List.getElem_toArray, List.getElem_cons_zero, List.getElem_cons_succ, Array.getInternal_eq_getElem, List.setIfInBounds_toArray, List.set_cons_zero, List.set_cons_succ])
  refine wpAnyH_take (i := 5) (v := ?_) rfl (by kernel_rfl) (by kernel_rfl) (by kernel_rfl) (fun _ _ _ h => h) (Or.inl ⟨by rfl, ?_⟩) (by assumption) ?_
  rotate_left
  · intro w hSw; (try dsimp only at hSw); go_simp; (try with_reducible rfl)
  (try simp only [Act.put, List.getElem_toArray, List.getElem_cons_zero, List.getElem_cons_succ, Array.getInternal_eq_getElem, List.setIfInBounds_toArray, List.set_cons_zero, List.set_cons_succ])
  refine wpAnyH_ready (rs := [4]) (by kernel_rfl) (by simp) ?_
  refine AllReadyH.cons rfl (fun K hK => ?_) AllReadyH.nil
  go_simp
  refine (insert_any (P := P) (g := g) _ ⟨_, _, rfl, (HP6.out.below hHeld.2).more hHeld.2.size⟩ (HG.out _ (chain HB9.out hHeld.2)) (Nat.le_refl _) HRC.out.i HRC.out.l HRC.out.s HGL.out HRC.out.j).mono ?_
  rintro e wa ⟨u, rfl, hpu, hba⟩
  rw [← HKE.out] at hpu
  have HPU := Lib.hid hpu
  clear hpu
  obtain ⟨q0, q1, q2, q3⟩ := hHeld.1
  refine hK.out _ _ ⟨⟨kc hba q0, kc hba q1, kc hba q2, kc hba q3⟩, chain hHeld.2 hba⟩ (fun hHeld => ?_)
  clear hba q0 q1 q2 q3
  clear hK K
  (try simp only [Act.put, List.getElem_toArray, List.getElem_cons_zero, List.getElem_cons_succ, Array.getInternal_eq_getElem, List.setIfInBounds_toArray, List.set_cons_zero, List.set_cons_succ])
  refine wpAnyH_ready (rs := [6]) (by kernel_rfl) (by simp) ?_
  refine AllReadyH.cons rfl (fun K hK => ?_) AllReadyH.nil
  go_simp
  refine (rsame_any _ HPU.out ⟨_, _, rfl, (HP8.out.below hHeld.2).more hHeld.2.size⟩ (Nat.le_refl _)).mono ?_
  rintro e wb ⟨rfl, hba⟩
  obtain ⟨q0, q1, q2, q3⟩ := hHeld.1
  refine hK.out _ _ ⟨⟨kc hba q0, kc hba q1, kc hba q2, kc hba q3⟩, chain hHeld.2 hba⟩ (fun hHeld => ?_)
  clear hba q0 q1 q2 q3
  clear hK K
  (try simp only [Act.put, List.getElem_toArray, List.getElem_cons_zero, List.getElem_cons_succ, Array.getInternal_eq_getElem, List.setIfInBounds_toArray, List.set_cons_zero, List.set_cons_succ])
  refine wpAnyH_take (i := 7) (v := ?_) rfl (by kernel_rfl) (by kernel_rfl) (by kernel_rfl) (fun _ _ _ h => h) (Or.inl ⟨by rfl, ?_⟩) (by assumption) ?_
  rotate_left
  · intro w hSw; (try dsimp only at hSw); go_simp; (try with_reducible rfl)
  (try simp only [Act.put, List.getElem_toArray, List.getElem_cons_zero, List.getElem_cons_succ, Array.getInternal_eq_getElem, List.setIfInBounds_toArray, List.set_cons_zero, List.set_cons_succ])
  refine wpAnyH_ready (rs := [8]) (by kernel_rfl) (by simp) ?_
  refine AllReadyH.cons rfl (fun K hK => ?_) AllReadyH.nil
  go_simp
  refine hK.out _ _ hHeld (fun hHeld => ?_)
  clear hK K
  (try simp only [Act.put, List.getElem_toArray, List.getElem_cons_zero, List.getElem_cons_succ, Array.getInternal_eq_getElem, List.setIfInBounds_toArray, List.set_cons_zero, List.set_cons_succ])
  refine wpAnyH_done (by kernel_rfl) ?_ _
  have HBF := Lib.hid (chain HB9.out hHeld.2)
  clear hHeld
  go_wp2
  go_ret
  exact ⟨rfl, HBF.out⟩
end Go.Proofs.Ytaelfjphgdlbcaa
