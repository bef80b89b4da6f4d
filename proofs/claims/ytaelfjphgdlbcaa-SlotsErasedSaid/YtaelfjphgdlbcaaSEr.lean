/-
  SlotsErased, as a walk: it returns true.
-/
import Derived.Test.YtaelfjphgdlbcaaSBk
import Derived.Deep.RegionHeld3
namespace Go.Proofs.Ytaelfjphgdlbcaa
open Go.RowKit
set_option linter.unusedVariables false
set_option linter.unusedSimpArgs false
open WordM (L)
open VM
open CodM (St Pg hasS)
open SlM

set_option maxHeartbeats 8000000 in
set_option maxRecDepth 100000 in
theorem ser_law {v vg : Value} {F : Fl} {g : List Int} (w : World) (hv : FlV w.heap.size w v F) (hg : Ints w.heap.size w vg g) :
    Calls Try.prog 6 #[v, vg] w fun e w' => e = .returned (.bool true) ∧ Below w.heap.size w w' := by
  obtain ⟨vi, vt, vc, rfl, hm⟩ := hv
  have HHd := Lib.hid (fun W => shead_any W)
  have HV := Lib.hid (fun W (hW : Below w.heap.size w W) => show FlV W.heap.size W (flv ⟨F.name.toArray⟩ vi vt vc F.all) F from ⟨vi, vt, vc, rfl, (hm.below hW).more hW.size⟩)
  have HG := Lib.hid (fun W (hW : Below w.heap.size w W) => show Ints W.heap.size W vg g from (hg.below hW).more hW.size)
  have HGF := Lib.hid (fun W (hW : Below w.heap.size w W) => vgreat_any W (HV.out W hW) (Nat.le_refl _))
  obtain ⟨⟨A0, c0, rfl, -⟩, ⟨A2, c2, rfl, -⟩, ⟨A1, c1, rfl, -⟩⟩ := hm
  obtain ⟨AG, cg, rfl, hg1, hg2, -⟩ := hg
  unfold flv at *
  unfold maxLen at hg2
  have hB := below_al (Below.refl w.heap.size w) (.cells #[.string ⟨F.name.toArray⟩, .slice A0 F.init.length c0, .slice A2 F.ths.length c2, .bool F.all, .slice A1 F.cond.length c1] 30)
  have hbx := Lib.hid (FlBox.at (w := w) rfl ⟨F.name.toArray⟩ (.slice A0 F.init.length c0) (.slice A2 F.ths.length c2) (.slice A1 F.cond.length c1) F.all 30)
  obtain ⟨t0, t1, t2, t3, t4⟩ := hbx.out
  go_enter Try.func6, Try.ntmps6
  go_wp2_with fail
  refine (HHd.out _).mono ?_
  rintro e w1 ⟨rfl, hbb⟩
  replace hB := chain hB hbb
  replace hbx := Lib.hid (hbx.out.below hbb)
  clear t0 t1 t2 t3 t4 hbb HHd
  obtain ⟨t0, t1, t2, t3, t4⟩ := hbx.out
  go_wp2_with fail
  refine (HGF.out _ hB).mono ?_
  rintro e w2 ⟨gb, rfl, hsx, hbb⟩
  replace hB := chain hB hbb
  replace hbx := Lib.hid (hbx.out.below hbb)
  clear t0 t1 t2 t3 t4 hbb HGF
  obtain ⟨t0, t1, t2, t3, t4⟩ := hbx.out
  cases gb
  case true =>
    go_wp2
    go_ret
    exact ⟨rfl, hB⟩
  have HS := Lib.hid (hsx rfl)
  clear hsx
  by_cases hgl : 100 < g.length
  · have q : decide (100 < g.length) = true := decide_eq_true hgl
    go_wp2
    go_ret
    exact ⟨rfl, hB⟩
  have q : decide (100 < g.length) = false := decide_eq_false hgl
  have HGL := Lib.hid (show g.length ≤ 1000000 from by omega)
  have HSA := Lib.hid (small_a HS.out)
  have HER := Lib.hid (erase_any (F := F) (g := g) _ (HV.out _ hB) (HG.out _ hB) (Nat.le_refl _) HSA.out.l HSA.out.s HGL.out HSA.out.i HSA.out.c)
  go_wp2_with fail
  refine HER.out.mono ?_
  rintro e w3 ⟨u, rfl, hF3, hbb⟩
  have HEA := Lib.hid (show SmallA (eraR F g) from small_e g HS.out)
  obtain ⟨E, hE⟩ : ∃ E, E = eraR F g := ⟨_, rfl⟩
  rw [← hE] at hF3 HEA
  have HE := Lib.hid hE
  replace hB := chain hB hbb
  replace hbx := Lib.hid (hbx.out.below hbb)
  have HF3 := Lib.hid hF3
  obtain ⟨vi3, vt3, vc3, rfl, ⟨A3, c3, rfl, -⟩, ⟨A4, c4, rfl, -⟩, ⟨A5, c5, rfl, -⟩⟩ := hF3
  clear t0 t1 t2 t3 t4 hbb HER hE HSA
  unfold flv at *
  go_upto_region 5 with fail
  have hbb := below_al (Below.refl w3.heap.size w3) (.cells #[.string ⟨E.name.toArray⟩, .slice A3 E.init.length c3, .slice A4 E.ths.length c4, .bool E.all, .slice A5 E.cond.length c5] 30)
  have hby := Lib.hid (FlBox.at (w := w3) rfl ⟨E.name.toArray⟩ (.slice A3 E.init.length c3) (.slice A4 E.ths.length c4) (.slice A5 E.cond.length c5) E.all 30)
  replace HF3 := Lib.hid ((HF3.out.below hbb).more hbb.size)
  replace hB := chain hB hbb
  replace hbx := Lib.hid (hbx.out.below hbb)
  generalize w3.alloc (.cells #[.string ⟨E.name.toArray⟩, .slice A3 E.init.length c3, .slice A4 E.ths.length c4, .bool E.all, .slice A5 E.cond.length c5] 30) = w4 at *
  clear hbb
  obtain ⟨g4, hg4⟩ : ∃ g, g = w3.heap.size := ⟨_, rfl⟩
  obtain ⟨g0, hg0⟩ : ∃ g, g = w.heap.size := ⟨_, rfl⟩
  rw [← hg4] at hby ⊢
  rw [← hg0] at hbx ⊢
  have HB0 := Lib.hid hg0
  clear hg4 hg0
  obtain ⟨s0, s1, s2, s3, s4⟩ := hby.out
  obtain ⟨t0, t1, t2, t3, t4⟩ := hbx.out
  have hB4 := Lib.hid hB
  clear hB
  cases hbb : eraB F g
  · have HEF := Lib.hid (show E = F by rw [HE.out]; unfold eraR; rw [hbb]; rfl)
    clear hbb HE HEA
    obtain rfl := HEF.out
    have HCS := Lib.hid (csame_any w4 HF3.out (HV.out _ hB4.out) (Nat.le_refl _))
    go_wp2_with fail
    refine HCS.out.mono ?_
    rintro e w7 ⟨⟨cb, rfl, hcb⟩, hbb⟩
    obtain rfl : cb = true := hcb.2 rfl
    have HBF := Lib.hid (chain hB4.out hbb)
    clear hbb
    go_wp2
    go_ret
    exact ⟨rfl, HB0.out ▸ HBF.out⟩
  · have HEB := Lib.hid (show fenF E g = F by
      rw [HE.out]; unfold eraR; rw [hbb, if_pos rfl]
      have h := hbb
      unfold eraB at h
      have h := of_decide_eq_true h
      exact withT_same (F := F) h)
    replace HF3 := Lib.hid (fun W (hW : Below w4.heap.size w4 W) => (HF3.out.below hW).more hW.size)
    clear hbb
    go_upto_region 7 with fail
    refine wp_region_held_drew (S := (fun w' => (w'.cell? ⟨g4, 0, none⟩ = some (.string ⟨E.name.toArray⟩) ∧ w'.cell? ⟨g4, 1, none⟩ = some (.slice A3 E.init.length c3) ∧ w'.cell? ⟨g4, 2, none⟩ = some (.slice A4 E.ths.length c4) ∧ w'.cell? ⟨g4, 3, none⟩ = some (.bool E.all) ∧ w'.cell? ⟨g4, 4, none⟩ = some (.slice A5 E.cond.length c5) ∧ w'.cell? ⟨g0, 0, none⟩ = some (.string ⟨F.name.toArray⟩) ∧ w'.cell? ⟨g0, 1, none⟩ = some (.slice A0 F.init.length c0) ∧ w'.cell? ⟨g0, 2, none⟩ = some (.slice A2 F.ths.length c2) ∧ w'.cell? ⟨g0, 3, none⟩ = some (.bool F.all) ∧ w'.cell? ⟨g0, 4, none⟩ = some (.slice A1 F.cond.length c1)) ∧ Below w4.heap.size w4 w')) (by kernel_rfl) ⟨⟨s0, s1, s2, s3, s4, t0, t1, t2, t3, t4⟩, below_drewN (Below.refl _ _) 1⟩ (fun hHeld => ?_)
    refine wpAnyH_take (i := 0) (v := ?_) rfl (by kernel_rfl) (by kernel_rfl) (by kernel_rfl) (fun _ _ _ h => h) (Or.inl ⟨by rfl, ?_⟩) (by assumption) ?_
    rotate_left
    · intro w hSw; (try dsimp only at hSw); go_simp; (try with_reducible rfl)
    (try simp only [Act.put, List.getElem_toArray, List.getElem_cons_zero, List.getElem_cons_succ, Array.getInternal_eq_getElem, List.setIfInBounds_toArray, List.set_cons_zero, List.set_cons_succ])
    refine wpAnyH_take (i := 1) (v := ?_) rfl (by kernel_rfl) (by kernel_rfl) (by kernel_rfl) (fun _ _ _ h => h) (Or.inl ⟨by rfl, ?_⟩) (by assumption) ?_
    rotate_left
    · intro w hSw; (try dsimp only at hSw); go_simp; (try with_reducible rfl)
    (try simp only [Act.put, List.getElem_toArray, List.getElem_cons_zero, List.getElem_cons_succ, Array.getInternal_eq_getElem, List.setIfInBounds_toArray, List.set_cons_zero, List.set_cons_succ])
    refine wpAnyH_take (i := 2) (v := ?_) rfl (by kernel_rfl) (by kernel_rfl) (by kernel_rfl) (fun _ _ _ h => h) (Or.inl ⟨by rfl, ?_⟩) (by assumption) ?_
    rotate_left
    · intro w hSw; (try dsimp only at hSw); go_simp; (try with_reducible rfl)
    (try simp only [Act.put, List.getElem_toArray, List.getElem_cons_zero, List.getElem_cons_succ, Array.getInternal_eq_getElem, List.setIfInBounds_toArray, List.set_cons_zero, List.set_cons_succ])
    refine wpAnyH_take (i := 3) (v := ?_) rfl (by kernel_rfl) (by kernel_rfl) (by kernel_rfl) (fun _ _ _ h => h) (Or.inl ⟨by rfl, ?_⟩) (by assumption) ?_
    rotate_left
    · intro w hSw; (try dsimp only at hSw); go_simp; (try with_reducible rfl)
    (try simp only [Act.put, List.getElem_toArray, List.getElem_cons_zero, List.getElem_cons_succ, Array.getInternal_eq_getElem, List.setIfInBounds_toArray, List.set_cons_zero, List.set_cons_succ])
    refine wpAnyH_take (i := 5) (v := ?_) rfl (by kernel_rfl) (by kernel_rfl) (by kernel_rfl) (fun _ _ _ h => h) (Or.inl ⟨by rfl, ?_⟩) (by assumption) ?_
    rotate_left
    · intro w hSw; (try dsimp only at hSw); go_simp; (try with_reducible rfl)
    (try simp only [Act.put, List.getElem_toArray, List.getElem_cons_zero, List.getElem_cons_succ, Array.getInternal_eq_getElem, List.setIfInBounds_toArray, List.set_cons_zero, List.set_cons_succ])
    refine wpAnyH_ready (rs := [4]) (by kernel_rfl) (by simp) ?_
    refine AllReadyH.cons rfl (fun K hK => ?_) AllReadyH.nil
    go_simp
    refine (fence_any (F := E) (g := g) _ (HF3.out _ hHeld.2) (HG.out _ (chain hB4.out hHeld.2)) (Nat.le_refl _) HEA.out.l HEA.out.s HGL.out HEA.out.i HEA.out.c).mono ?_
    rintro e wa ⟨u, rfl, hF5, hba⟩
    rw [HEB.out] at hF5
    have HF5 := Lib.hid hF5
    clear hF5
    obtain ⟨q0, q1, q2, q3, q4, q5, q6, q7, q8, q9⟩ := hHeld.1
    refine hK.out _ _ ⟨⟨kc hba q0, kc hba q1, kc hba q2, kc hba q3, kc hba q4, kc hba q5, kc hba q6, kc hba q7, kc hba q8, kc hba q9⟩, chain hHeld.2 hba⟩ (fun hHeld => ?_)
    clear hba q0 q1 q2 q3 q4 q5 q6 q7 q8 q9
    clear hK K
    (try simp only [Act.put, List.getElem_toArray, List.getElem_cons_zero, List.getElem_cons_succ, Array.getInternal_eq_getElem, List.setIfInBounds_toArray, List.set_cons_zero, List.set_cons_succ])
    refine wpAnyH_ready (rs := [6]) (by kernel_rfl) (by simp) ?_
    refine AllReadyH.cons rfl (fun K hK => ?_) AllReadyH.nil
    go_simp
    refine (csame_any _ HF5.out (HV.out _ (chain hB4.out hHeld.2)) (Nat.le_refl _)).mono ?_
    rintro e wb ⟨⟨cb, rfl, hcb⟩, hba⟩
    obtain rfl : cb = true := hcb.2 rfl
    obtain ⟨q0, q1, q2, q3, q4, q5, q6, q7, q8, q9⟩ := hHeld.1
    refine hK.out _ _ ⟨⟨kc hba q0, kc hba q1, kc hba q2, kc hba q3, kc hba q4, kc hba q5, kc hba q6, kc hba q7, kc hba q8, kc hba q9⟩, chain hHeld.2 hba⟩ (fun hHeld => ?_)
    clear hba q0 q1 q2 q3 q4 q5 q6 q7 q8 q9
    clear hK K
    (try simp only [Act.put, List.getElem_toArray, List.getElem_cons_zero, List.getElem_cons_succ, Array.getInternal_eq_getElem, List.setIfInBounds_toArray, List.set_cons_zero, List.set_cons_succ])
    refine wpAnyH_take (i := 7) (v := ?_) rfl (by kernel_rfl) (by kernel_rfl) (by kernel_rfl) (fun _ _ _ h => h) (Or.inl ⟨by rfl, ?_⟩) (by assumption) ?_
    rotate_left
    · intro w hSw; (try dsimp only at hSw); go_simp; (try with_reducible rfl)
    (try simp only [Act.put, List.getElem_toArray, List.getElem_cons_zero, List.getElem_cons_succ, Array.getInternal_eq_getElem, List.setIfInBounds_toArray, List.set_cons_zero, List.set_cons_succ])
    refine wpAnyH_ready (rs := [8]) (by kernel_rfl) (by simp) ?_
    refine AllReadyH.cons rfl (fun K hK => ?_) AllReadyH.nil
    go_simp
    refine hK.out _ _ hHeld (fun hHeld => ?_)
    clear hK K
    (try simp only [Act.put, List.getElem_toArray, List.getElem_cons_zero, List.getElem_cons_succ, Array.getInternal_eq_getElem, List.setIfInBounds_toArray, List.set_cons_zero, List.set_cons_succ])
    refine wpAnyH_done (by kernel_rfl) ?_ _
    have HBF := Lib.hid (chain hB4.out hHeld.2)
    clear hHeld
    go_wp2
    go_ret
    exact ⟨rfl, HBF.out⟩
end Go.Proofs.Ytaelfjphgdlbcaa
