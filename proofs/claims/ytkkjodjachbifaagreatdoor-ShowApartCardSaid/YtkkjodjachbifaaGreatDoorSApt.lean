/-
  ShowApart, as a walk over any world that holds the registers and the type of errors: it returns true.
-/
import Derived.Test.YtkkjodjachbifaaGreatDoorHds
import Derived.Test.YtkkjodjachbifaaGreatDoorShM
import Derived.Test.YtkkjodjachbifaaGreatDoorSTell
import Derived.Deep.RegionHeld3
namespace Go.Proofs.YtkkjodjachbifaaGreatDoor
open Go.RowKit
set_option linter.unusedVariables false
set_option linter.unusedSimpArgs false
open WordM (L)
open VM
set_option maxHeartbeats 8000000 in
set_option maxRecDepth 100000 in
theorem sapart_any {v u : Value} {F G : Fl} (w : World) (hr : Regs w) (hg : EA.ErrG w) (hv : FlV w.heap.size w v F) (hu : FlV w.heap.size w u G) (hi : IntsOk F) (hnm : NumsOk F) (hi2 : IntsOk G) (hnm2 : NumsOk G) :
    Calls Tryz.prog 6 #[v, u] w fun e w' => e = .returned (.bool true) ∧ Below w.heap.size w w' := by
  obtain ⟨vi, vt, vc, rfl, hm⟩ := hv
  obtain ⟨ui, ut, uc, rfl, hn⟩ := hu
  have HM := Lib.hid hm
  have HN := Lib.hid hn
  have HR := Lib.hid hr
  have HG := Lib.hid hg
  have HI := Lib.hid hi
  have HNM := Lib.hid hnm
  have HI2 := Lib.hid hi2
  have HNM2 := Lib.hid hnm2
  have HV : ∀ W, Below w.heap.size w W → FlV W.heap.size W (flv ⟨F.name.toArray⟩ vi vt vc F.all) F := fun W hW => ⟨vi, vt, vc, rfl, (HM.out.below hW).more hW.size⟩
  have HU : ∀ W, Below w.heap.size w W → FlV W.heap.size W (flv ⟨G.name.toArray⟩ ui ut uc G.all) G := fun W hW => ⟨ui, ut, uc, rfl, (HN.out.below hW).more hW.size⟩
  have HHd := Lib.hid (fun W (hW : Below w.heap.size w W) => shead_any W (HR.out.below hW) (HG.out.below hW))
  have HGF := Lib.hid (fun W (hW : Below w.heap.size w W) => vgreat_any W (HV W hW) (Nat.le_refl _))
  have HGG := Lib.hid (fun W (hW : Below w.heap.size w W) => vgreat_any W (HU W hW) (Nat.le_refl _))
  have HRF := Lib.hid (fun (hp : FlP F) W (hW : Below w.heap.size w W) => rvright_any W (HV W hW) (Nat.le_refl _) hp.ok)
  have HRG := Lib.hid (fun (hp : FlP G) W (hW : Below w.heap.size w W) => rvright_any W (HU W hW) (Nat.le_refl _) hp.ok)
  have HPF := Lib.hid (fun (hp : FlP F) W (hW : Below w.heap.size w W) => print_any W (HR.out.below hW) (HG.out.below hW) (HV W hW) (Nat.le_refl _) hp)
  have HPG := Lib.hid (fun (hp : FlP G) W (hW : Below w.heap.size w W) => print_any W (HR.out.below hW) (HG.out.below hW) (HU W hW) (Nat.le_refl _) hp)
  have HSM := Lib.hid (fun W (hW : Below w.heap.size w W) => csame_any W (HV W hW) (HU W hW) (Nat.le_refl _))
  obtain ⟨⟨A0, c0, rfl, -⟩, ⟨A2, c2, rfl, -⟩, ⟨A1, c1, rfl, -⟩⟩ := hm
  obtain ⟨⟨D0, d0, rfl, -⟩, ⟨D2, d2, rfl, -⟩, ⟨D1, d1, rfl, -⟩⟩ := hn
  unfold flv at *
  clear HV HU hr hg hi hnm hi2 hnm2 HM HN HR HG
  have hB := below_al (below_al (Below.refl w.heap.size w) (.cells #[.string ⟨F.name.toArray⟩, .slice A0 F.init.length c0, .slice A2 F.ths.length c2, .bool F.all, .slice A1 F.cond.length c1] 26)) (.cells #[.string ⟨G.name.toArray⟩, .slice D0 G.init.length d0, .slice D2 G.ths.length d2, .bool G.all, .slice D1 G.cond.length d1] 26)
  have hb1 : Below (w.alloc (.cells #[.string ⟨F.name.toArray⟩, .slice A0 F.init.length c0, .slice A2 F.ths.length c2, .bool F.all, .slice A1 F.cond.length c1] 26)).heap.size (w.alloc (.cells #[.string ⟨F.name.toArray⟩, .slice A0 F.init.length c0, .slice A2 F.ths.length c2, .bool F.all, .slice A1 F.cond.length c1] 26)) ((w.alloc (.cells #[.string ⟨F.name.toArray⟩, .slice A0 F.init.length c0, .slice A2 F.ths.length c2, .bool F.all, .slice A1 F.cond.length c1] 26)).alloc (.cells #[.string ⟨G.name.toArray⟩, .slice D0 G.init.length d0, .slice D2 G.ths.length d2, .bool G.all, .slice D1 G.cond.length d1] 26)) := below_al (Below.refl _ _) (.cells #[.string ⟨G.name.toArray⟩, .slice D0 G.init.length d0, .slice D2 G.ths.length d2, .bool G.all, .slice D1 G.cond.length d1] 26)
  have hbx := Lib.hid ((FlBox.at (w := w) rfl ⟨F.name.toArray⟩ (.slice A0 F.init.length c0) (.slice A2 F.ths.length c2) (.slice A1 F.cond.length c1) F.all 26).below hb1)
  have hsz : (w.alloc (.cells #[.string ⟨F.name.toArray⟩, .slice A0 F.init.length c0, .slice A2 F.ths.length c2, .bool F.all, .slice A1 F.cond.length c1] 26)).heap.size = w.heap.size + 1 := by simp
  have hby := Lib.hid (FlBox.at (w := w.alloc (.cells #[.string ⟨F.name.toArray⟩, .slice A0 F.init.length c0, .slice A2 F.ths.length c2, .bool F.all, .slice A1 F.cond.length c1] 26)) hsz.symm ⟨G.name.toArray⟩ (.slice D0 G.init.length d0) (.slice D2 G.ths.length d2) (.slice D1 G.cond.length d1) G.all 26)
  obtain ⟨t0, t1, t2, t3, t4⟩ := hbx.out
  obtain ⟨s0, s1, s2, s3, s4⟩ := hby.out
  clear hb1 hsz
  go_enter Tryz.func6, Tryz.ntmps6
  go_wp2_with fail
  refine (HHd.out _ hB).mono ?_
  rintro e w1 ⟨rfl, hbb⟩
  have hB := chain hB hbb
  replace hbx := Lib.hid (hbx.out.below hbb)
  replace hby := Lib.hid (hby.out.below hbb)
  clear t0 t1 t2 t3 t4 s0 s1 s2 s3 s4 hbb
  obtain ⟨t0, t1, t2, t3, t4⟩ := hbx.out
  obtain ⟨s0, s1, s2, s3, s4⟩ := hby.out
  clear HHd
  go_wp2_with fail
  refine (HGF.out _ hB).mono ?_
  rintro e w2 ⟨b, rfl, hsx, hbb⟩
  have hB := chain hB hbb
  replace hbx := Lib.hid (hbx.out.below hbb)
  replace hby := Lib.hid (hby.out.below hbb)
  clear t0 t1 t2 t3 t4 s0 s1 s2 s3 s4 hbb
  obtain ⟨t0, t1, t2, t3, t4⟩ := hbx.out
  obtain ⟨s0, s1, s2, s3, s4⟩ := hby.out
  cases b
  case true =>
    go_wp2
    go_ret
    exact ⟨rfl, hB⟩
  have hp := small_p (hsx rfl) HI.out HNM.out
  clear HGF hsx HI HNM
  go_wp2_with fail
  refine (HGG.out _ hB).mono ?_
  rintro e w3 ⟨b, rfl, hsy, hbb⟩
  have hB := chain hB hbb
  replace hbx := Lib.hid (hbx.out.below hbb)
  replace hby := Lib.hid (hby.out.below hbb)
  clear t0 t1 t2 t3 t4 s0 s1 s2 s3 s4 hbb
  obtain ⟨t0, t1, t2, t3, t4⟩ := hbx.out
  obtain ⟨s0, s1, s2, s3, s4⟩ := hby.out
  cases b
  case true =>
    go_wp2
    go_ret
    exact ⟨rfl, hB⟩
  have hq := small_p (hsy rfl) HI2.out HNM2.out
  clear HGG hsy HI2 HNM2
  replace HRF := Lib.hid (HRF.out hp)
  replace HRG := Lib.hid (HRG.out hq)
  replace HPF := Lib.hid (HPF.out hp)
  replace HPG := Lib.hid (HPG.out hq)
  have HAP := Lib.hid (fun (h1 : VM.right F = true) (h2 : VM.right G = true) => apart h1 h2 hp hq)
  clear hp hq
  go_wp2_with fail
  refine (HRF.out _ hB).mono ?_
  rintro e w4 ⟨rfl, hbb⟩
  have hB := chain hB hbb
  replace hbx := Lib.hid (hbx.out.below hbb)
  replace hby := Lib.hid (hby.out.below hbb)
  clear t0 t1 t2 t3 t4 s0 s1 s2 s3 s4 hbb
  obtain ⟨t0, t1, t2, t3, t4⟩ := hbx.out
  obtain ⟨s0, s1, s2, s3, s4⟩ := hby.out
  cases hrf : VM.right F
  case false =>
    go_wp2
    go_ret
    exact ⟨rfl, hB⟩
  replace HAP := Lib.hid (HAP.out hrf)
  clear HRF hrf
  go_wp2_with fail
  refine (HRG.out _ hB).mono ?_
  rintro e w5 ⟨rfl, hbb⟩
  have hB := chain hB hbb
  replace hbx := Lib.hid (hbx.out.below hbb)
  replace hby := Lib.hid (hby.out.below hbb)
  clear t0 t1 t2 t3 t4 s0 s1 s2 s3 s4 hbb
  obtain ⟨t0, t1, t2, t3, t4⟩ := hbx.out
  obtain ⟨s0, s1, s2, s3, s4⟩ := hby.out
  cases hrg : VM.right G
  case false =>
    go_wp2
    go_ret
    exact ⟨rfl, hB⟩
  replace HAP := Lib.hid (HAP.out hrg)
  clear HRG hrg
  obtain ⟨sF, hsF⟩ : ∃ s, s = printL F := ⟨_, rfl⟩
  obtain ⟨sG, hsG⟩ : ∃ s, s = printL G := ⟨_, rfl⟩
  rw [← hsF] at HPF HAP
  rw [← hsG] at HPG HAP
  clear hsF hsG
  by_cases hfg : F = G
  · have q : (sF == sG) = true := beq_iff_eq.2 (HAP.out.2 hfg)
    replace HSM := Lib.hid (fun W (hW : Below w.heap.size w W) => (HSM.out W hW).mono (fun e w' (h : RetSm F G W e w') => show e = .returned (.bool true) ∧ Below W.heap.size W w' from by
      obtain ⟨⟨b, rfl, hb⟩, hB⟩ := h
      rw [hb.2 hfg]; exact ⟨rfl, hB⟩))
    clear hfg HAP
    go_wp2_with fail
    refine wp_region_held_drew (S := (fun w' => (w'.cell? ⟨w.heap.size, 0, none⟩ = some (.string ⟨F.name.toArray⟩) ∧ w'.cell? ⟨w.heap.size, 1, none⟩ = some (.slice A0 F.init.length c0) ∧ w'.cell? ⟨w.heap.size, 2, none⟩ = some (.slice A2 F.ths.length c2) ∧ w'.cell? ⟨w.heap.size, 3, none⟩ = some (.bool F.all) ∧ w'.cell? ⟨w.heap.size, 4, none⟩ = some (.slice A1 F.cond.length c1)) ∧ (w'.cell? ⟨w.heap.size + 1, 0, none⟩ = some (.string ⟨G.name.toArray⟩) ∧ w'.cell? ⟨w.heap.size + 1, 1, none⟩ = some (.slice D0 G.init.length d0) ∧ w'.cell? ⟨w.heap.size + 1, 2, none⟩ = some (.slice D2 G.ths.length d2) ∧ w'.cell? ⟨w.heap.size + 1, 3, none⟩ = some (.bool G.all) ∧ w'.cell? ⟨w.heap.size + 1, 4, none⟩ = some (.slice D1 G.cond.length d1)) ∧ Below w.heap.size w w')) (by kernel_rfl) ⟨⟨t0, t1, t2, t3, t4⟩, ⟨s0, s1, s2, s3, s4⟩, below_drewN hB 1⟩ (fun hHeld => ?_)
    refine wpAnyH_take (i := 0) (v := ?_) rfl (by kernel_rfl) (by kernel_rfl) (by kernel_rfl) (fun _ _ _ h => h) (Or.inl ⟨by rfl, ?_⟩) (by assumption) ?_
    rotate_left
    · intro w hSw; (try dsimp only at hSw); go_simp; (try with_reducible rfl)
    (try simp only [Act.put, List.getElem_toArray, List.getElem_cons_zero, List.getElem_cons_succ, Array.getInternal_eq_getElem, List.setIfInBounds_toArray, List.set_cons_zero, List.set_cons_succ])
    refine wpAnyH_take (i := 1) (v := ?_) rfl (by kernel_rfl) (by kernel_rfl) (by kernel_rfl) (fun _ _ _ h => h) (Or.inl ⟨by rfl, ?_⟩) (by assumption) ?_
    rotate_left
    · intro w hSw; (try dsimp only at hSw); go_simp; (try with_reducible rfl)
    (try simp only [Act.put, List.getElem_toArray, List.getElem_cons_zero, List.getElem_cons_succ, Array.getInternal_eq_getElem, List.setIfInBounds_toArray, List.set_cons_zero, List.set_cons_succ])
    refine wpAnyH_take (i := 2) (v := ?_) rfl (by kernel_rfl) (by kernel_rfl) (by kernel_rfl) (fun _ _ _ h => h) (Or.inl ⟨by rfl, ?_⟩) (by assumption) ?_
    rotate_left
    · intro w hSw; (try dsimp only at hSw); go_simp; (try with_reducible rfl)
    (try simp only [Act.put, List.getElem_toArray, List.getElem_cons_zero, List.getElem_cons_succ, Array.getInternal_eq_getElem, List.setIfInBounds_toArray, List.set_cons_zero, List.set_cons_succ])
    refine wpAnyH_take (i := 4) (v := ?_) rfl (by kernel_rfl) (by kernel_rfl) (by kernel_rfl) (fun _ _ _ h => h) (Or.inl ⟨by rfl, ?_⟩) (by assumption) ?_
    rotate_left
    · intro w hSw; (try dsimp only at hSw); go_simp; (try with_reducible rfl)
    (try simp only [Act.put, List.getElem_toArray, List.getElem_cons_zero, List.getElem_cons_succ, Array.getInternal_eq_getElem, List.setIfInBounds_toArray, List.set_cons_zero, List.set_cons_succ])
    refine wpAnyH_take (i := 7) (v := ?_) rfl (by kernel_rfl) (by kernel_rfl) (by kernel_rfl) (fun _ _ _ h => h) (Or.inl ⟨by rfl, ?_⟩) (by assumption) ?_
    rotate_left
    · intro w hSw; (try dsimp only at hSw); go_simp; (try with_reducible rfl)
    (try simp only [Act.put, List.getElem_toArray, List.getElem_cons_zero, List.getElem_cons_succ, Array.getInternal_eq_getElem, List.setIfInBounds_toArray, List.set_cons_zero, List.set_cons_succ])
    refine wpAnyH_take (i := 8) (v := ?_) rfl (by kernel_rfl) (by kernel_rfl) (by kernel_rfl) (fun _ _ _ h => h) (Or.inl ⟨by rfl, ?_⟩) (by assumption) ?_
    rotate_left
    · intro w hSw; (try dsimp only at hSw); go_simp; (try with_reducible rfl)
    (try simp only [Act.put, List.getElem_toArray, List.getElem_cons_zero, List.getElem_cons_succ, Array.getInternal_eq_getElem, List.setIfInBounds_toArray, List.set_cons_zero, List.set_cons_succ])
    refine wpAnyH_ready (rs := [3]) (by kernel_rfl) (by simp) ?_
    refine AllReadyH.cons rfl (fun K hK => ?_) AllReadyH.nil
    go_simp
    go_at_call 12
    refine (HPF.out _ hHeld.2.2).mono ?_
    rintro e z0 ⟨rfl, hz0⟩
    refine hK.out _ _ (keep11b hz0 hHeld) (fun hHeld => ?_)
    clear hK K
    (try simp only [Act.put, List.getElem_toArray, List.getElem_cons_zero, List.getElem_cons_succ, Array.getInternal_eq_getElem, List.setIfInBounds_toArray, List.set_cons_zero, List.set_cons_succ])
    refine wpAnyH_ready (rs := [5]) (by kernel_rfl) (by simp) ?_
    refine AllReadyH.cons rfl (fun K hK => ?_) AllReadyH.nil
    go_simp
    go_at_call 12
    refine (HPG.out _ hHeld.2.2).mono ?_
    rintro e z1 ⟨rfl, hz1⟩
    refine hK.out _ _ (keep11b hz1 hHeld) (fun hHeld => ?_)
    clear hK K
    (try simp only [Act.put, List.getElem_toArray, List.getElem_cons_zero, List.getElem_cons_succ, Array.getInternal_eq_getElem, List.setIfInBounds_toArray, List.set_cons_zero, List.set_cons_succ])
    refine wpAnyH_take (i := 6) (v := ?_) rfl (by kernel_rfl) (by kernel_rfl) (by kernel_rfl) (fun _ _ _ h => h) (Or.inl ⟨by rfl, ?_⟩) (by assumption) ?_
    rotate_left
    · intro w hSw; (try dsimp only at hSw); go_simp; (try with_reducible rfl)
    (try simp only [Act.put, List.getElem_toArray, List.getElem_cons_zero, List.getElem_cons_succ, Array.getInternal_eq_getElem, List.setIfInBounds_toArray, List.set_cons_zero, List.set_cons_succ])
    refine wpAnyH_ready (rs := [9]) (by kernel_rfl) (by simp) ?_
    refine AllReadyH.cons rfl (fun K hK => ?_) AllReadyH.nil
    go_simp
    go_at_call 18
    refine (HSM.out _ hHeld.2.2).mono ?_
    rintro e z2 ⟨rfl, hz2⟩
    refine hK.out _ _ (keep11b hz2 hHeld) (fun hHeld => ?_)
    clear hK K
    (try simp only [Act.put, List.getElem_toArray, List.getElem_cons_zero, List.getElem_cons_succ, Array.getInternal_eq_getElem, List.setIfInBounds_toArray, List.set_cons_zero, List.set_cons_succ])
    refine wpAnyH_take (i := 10) (v := ?_) rfl (by kernel_rfl) (by kernel_rfl) (by kernel_rfl) (fun _ _ _ h => h) (Or.inl ⟨by rfl, ?_⟩) (by assumption) ?_
    rotate_left
    · intro w hSw; (try dsimp only at hSw); go_simp; (try with_reducible rfl)
    (try simp only [Act.put, List.getElem_toArray, List.getElem_cons_zero, List.getElem_cons_succ, Array.getInternal_eq_getElem, List.setIfInBounds_toArray, List.set_cons_zero, List.set_cons_succ])
    refine wpAnyH_take (i := 11) (v := ?_) rfl (by kernel_rfl) (by kernel_rfl) (by kernel_rfl) (fun _ _ _ h => h) (Or.inl ⟨by rfl, ?_⟩) (by assumption) ?_
    rotate_left
    · intro w hSw; (try dsimp only at hSw); go_simp; (try with_reducible rfl)
    (try simp only [Act.put, List.getElem_toArray, List.getElem_cons_zero, List.getElem_cons_succ, Array.getInternal_eq_getElem, List.setIfInBounds_toArray, List.set_cons_zero, List.set_cons_succ])
    refine wpAnyH_ready (rs := [12]) (by kernel_rfl) (by simp) ?_
    refine AllReadyH.cons rfl (fun K hK => ?_) AllReadyH.nil
    go_simp
    refine hK.out _ _ hHeld (fun hHeld => ?_)
    clear hK K
    (try simp only [Act.put, List.getElem_toArray, List.getElem_cons_zero, List.getElem_cons_succ, Array.getInternal_eq_getElem, List.setIfInBounds_toArray, List.set_cons_zero, List.set_cons_succ])
    refine wpAnyH_done (by kernel_rfl) ?_ _
    go_wp2
    go_ret
    exact ⟨rfl, hHeld.2.2⟩
  · have q : (sF == sG) = false := beq_eq_false_iff_ne.2 (fun c => hfg (HAP.out.1 c))
    replace HSM := Lib.hid (fun W (hW : Below w.heap.size w W) => (HSM.out W hW).mono (fun e w' (h : RetSm F G W e w') => show e = .returned (.bool false) ∧ Below W.heap.size W w' from by
      obtain ⟨⟨b, rfl, hb⟩, hB⟩ := h
      cases b
      · exact ⟨rfl, hB⟩
      · exact absurd (hb.1 rfl) hfg))
    clear hfg HAP
    go_wp2_with fail
    refine wp_region_held_drew (S := (fun w' => (w'.cell? ⟨w.heap.size, 0, none⟩ = some (.string ⟨F.name.toArray⟩) ∧ w'.cell? ⟨w.heap.size, 1, none⟩ = some (.slice A0 F.init.length c0) ∧ w'.cell? ⟨w.heap.size, 2, none⟩ = some (.slice A2 F.ths.length c2) ∧ w'.cell? ⟨w.heap.size, 3, none⟩ = some (.bool F.all) ∧ w'.cell? ⟨w.heap.size, 4, none⟩ = some (.slice A1 F.cond.length c1)) ∧ (w'.cell? ⟨w.heap.size + 1, 0, none⟩ = some (.string ⟨G.name.toArray⟩) ∧ w'.cell? ⟨w.heap.size + 1, 1, none⟩ = some (.slice D0 G.init.length d0) ∧ w'.cell? ⟨w.heap.size + 1, 2, none⟩ = some (.slice D2 G.ths.length d2) ∧ w'.cell? ⟨w.heap.size + 1, 3, none⟩ = some (.bool G.all) ∧ w'.cell? ⟨w.heap.size + 1, 4, none⟩ = some (.slice D1 G.cond.length d1)) ∧ Below w.heap.size w w')) (by kernel_rfl) ⟨⟨t0, t1, t2, t3, t4⟩, ⟨s0, s1, s2, s3, s4⟩, below_drewN hB 1⟩ (fun hHeld => ?_)
    refine wpAnyH_take (i := 0) (v := ?_) rfl (by kernel_rfl) (by kernel_rfl) (by kernel_rfl) (fun _ _ _ h => h) (Or.inl ⟨by rfl, ?_⟩) (by assumption) ?_
    rotate_left
    · intro w hSw; (try dsimp only at hSw); go_simp; (try with_reducible rfl)
    (try simp only [Act.put, List.getElem_toArray, List.getElem_cons_zero, List.getElem_cons_succ, Array.getInternal_eq_getElem, List.setIfInBounds_toArray, List.set_cons_zero, List.set_cons_succ])
    refine wpAnyH_take (i := 1) (v := ?_) rfl (by kernel_rfl) (by kernel_rfl) (by kernel_rfl) (fun _ _ _ h => h) (Or.inl ⟨by rfl, ?_⟩) (by assumption) ?_
    rotate_left
    · intro w hSw; (try dsimp only at hSw); go_simp; (try with_reducible rfl)
    (try simp only [Act.put, List.getElem_toArray, List.getElem_cons_zero, List.getElem_cons_succ, Array.getInternal_eq_getElem, List.setIfInBounds_toArray, List.set_cons_zero, List.set_cons_succ])
    refine wpAnyH_take (i := 2) (v := ?_) rfl (by kernel_rfl) (by kernel_rfl) (by kernel_rfl) (fun _ _ _ h => h) (Or.inl ⟨by rfl, ?_⟩) (by assumption) ?_
    rotate_left
    · intro w hSw; (try dsimp only at hSw); go_simp; (try with_reducible rfl)
    (try simp only [Act.put, List.getElem_toArray, List.getElem_cons_zero, List.getElem_cons_succ, Array.getInternal_eq_getElem, List.setIfInBounds_toArray, List.set_cons_zero, List.set_cons_succ])
    refine wpAnyH_take (i := 4) (v := ?_) rfl (by kernel_rfl) (by kernel_rfl) (by kernel_rfl) (fun _ _ _ h => h) (Or.inl ⟨by rfl, ?_⟩) (by assumption) ?_
    rotate_left
    · intro w hSw; (try dsimp only at hSw); go_simp; (try with_reducible rfl)
    (try simp only [Act.put, List.getElem_toArray, List.getElem_cons_zero, List.getElem_cons_succ, Array.getInternal_eq_getElem, List.setIfInBounds_toArray, List.set_cons_zero, List.set_cons_succ])
    refine wpAnyH_take (i := 7) (v := ?_) rfl (by kernel_rfl) (by kernel_rfl) (by kernel_rfl) (fun _ _ _ h => h) (Or.inl ⟨by rfl, ?_⟩) (by assumption) ?_
    rotate_left
    · intro w hSw; (try dsimp only at hSw); go_simp; (try with_reducible rfl)
    (try simp only [Act.put, List.getElem_toArray, List.getElem_cons_zero, List.getElem_cons_succ, Array.getInternal_eq_getElem, List.setIfInBounds_toArray, List.set_cons_zero, List.set_cons_succ])
    refine wpAnyH_take (i := 8) (v := ?_) rfl (by kernel_rfl) (by kernel_rfl) (by kernel_rfl) (fun _ _ _ h => h) (Or.inl ⟨by rfl, ?_⟩) (by assumption) ?_
    rotate_left
    · intro w hSw; (try dsimp only at hSw); go_simp; (try with_reducible rfl)
    (try simp only [Act.put, List.getElem_toArray, List.getElem_cons_zero, List.getElem_cons_succ, Array.getInternal_eq_getElem, List.setIfInBounds_toArray, List.set_cons_zero, List.set_cons_succ])
    refine wpAnyH_ready (rs := [3]) (by kernel_rfl) (by simp) ?_
    refine AllReadyH.cons rfl (fun K hK => ?_) AllReadyH.nil
    go_simp
    go_at_call 12
    refine (HPF.out _ hHeld.2.2).mono ?_
    rintro e z0 ⟨rfl, hz0⟩
    refine hK.out _ _ (keep11b hz0 hHeld) (fun hHeld => ?_)
    clear hK K
    (try simp only [Act.put, List.getElem_toArray, List.getElem_cons_zero, List.getElem_cons_succ, Array.getInternal_eq_getElem, List.setIfInBounds_toArray, List.set_cons_zero, List.set_cons_succ])
    refine wpAnyH_ready (rs := [5]) (by kernel_rfl) (by simp) ?_
    refine AllReadyH.cons rfl (fun K hK => ?_) AllReadyH.nil
    go_simp
    go_at_call 12
    refine (HPG.out _ hHeld.2.2).mono ?_
    rintro e z1 ⟨rfl, hz1⟩
    refine hK.out _ _ (keep11b hz1 hHeld) (fun hHeld => ?_)
    clear hK K
    (try simp only [Act.put, List.getElem_toArray, List.getElem_cons_zero, List.getElem_cons_succ, Array.getInternal_eq_getElem, List.setIfInBounds_toArray, List.set_cons_zero, List.set_cons_succ])
    refine wpAnyH_take (i := 6) (v := ?_) rfl (by kernel_rfl) (by kernel_rfl) (by kernel_rfl) (fun _ _ _ h => h) (Or.inl ⟨by rfl, ?_⟩) (by assumption) ?_
    rotate_left
    · intro w hSw; (try dsimp only at hSw); go_simp; (try with_reducible rfl)
    (try simp only [Act.put, List.getElem_toArray, List.getElem_cons_zero, List.getElem_cons_succ, Array.getInternal_eq_getElem, List.setIfInBounds_toArray, List.set_cons_zero, List.set_cons_succ])
    refine wpAnyH_ready (rs := [9]) (by kernel_rfl) (by simp) ?_
    refine AllReadyH.cons rfl (fun K hK => ?_) AllReadyH.nil
    go_simp
    go_at_call 18
    refine (HSM.out _ hHeld.2.2).mono ?_
    rintro e z2 ⟨rfl, hz2⟩
    refine hK.out _ _ (keep11b hz2 hHeld) (fun hHeld => ?_)
    clear hK K
    (try simp only [Act.put, List.getElem_toArray, List.getElem_cons_zero, List.getElem_cons_succ, Array.getInternal_eq_getElem, List.setIfInBounds_toArray, List.set_cons_zero, List.set_cons_succ])
    refine wpAnyH_take (i := 10) (v := ?_) rfl (by kernel_rfl) (by kernel_rfl) (by kernel_rfl) (fun _ _ _ h => h) (Or.inl ⟨by rfl, ?_⟩) (by assumption) ?_
    rotate_left
    · intro w hSw; (try dsimp only at hSw); go_simp; (try with_reducible rfl)
    (try simp only [Act.put, List.getElem_toArray, List.getElem_cons_zero, List.getElem_cons_succ, Array.getInternal_eq_getElem, List.setIfInBounds_toArray, List.set_cons_zero, List.set_cons_succ])
    refine wpAnyH_take (i := 11) (v := ?_) rfl (by kernel_rfl) (by kernel_rfl) (by kernel_rfl) (fun _ _ _ h => h) (Or.inl ⟨by rfl, ?_⟩) (by assumption) ?_
    rotate_left
    · intro w hSw; (try dsimp only at hSw); go_simp; (try with_reducible rfl)
    (try simp only [Act.put, List.getElem_toArray, List.getElem_cons_zero, List.getElem_cons_succ, Array.getInternal_eq_getElem, List.setIfInBounds_toArray, List.set_cons_zero, List.set_cons_succ])
    refine wpAnyH_ready (rs := [12]) (by kernel_rfl) (by simp) ?_
    refine AllReadyH.cons rfl (fun K hK => ?_) AllReadyH.nil
    go_simp
    refine hK.out _ _ hHeld (fun hHeld => ?_)
    clear hK K
    (try simp only [Act.put, List.getElem_toArray, List.getElem_cons_zero, List.getElem_cons_succ, Array.getInternal_eq_getElem, List.setIfInBounds_toArray, List.set_cons_zero, List.set_cons_succ])
    refine wpAnyH_done (by kernel_rfl) ?_ _
    go_wp2
    go_ret
    exact ⟨rfl, hHeld.2.2⟩
end Go.Proofs.YtkkjodjachbifaaGreatDoor
