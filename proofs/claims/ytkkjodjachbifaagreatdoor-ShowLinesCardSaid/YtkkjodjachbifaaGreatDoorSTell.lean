/-
  ShowTells, as a walk over any world that holds the registers and the type of errors: it returns true.
-/
import Derived.Test.YtkkjodjachbifaaGreatDoorHds
import Derived.Test.YtkkjodjachbifaaGreatDoorRowFN
import Derived.Deep.RegionHeld3
namespace Go.Proofs.YtkkjodjachbifaaGreatDoor
open Go.RowKit
set_option linter.unusedVariables false
set_option linter.unusedSimpArgs false
open WordM (L)
open VM

theorem keep11b {w W w' : World} {g h : Nat} {x0 x1 x2 x3 x4 y0 y1 y2 y3 y4 : Value} (hb : Below W.heap.size W w') (k : (W.cell? ⟨g, 0, none⟩ = some x0 ∧ W.cell? ⟨g, 1, none⟩ = some x1 ∧ W.cell? ⟨g, 2, none⟩ = some x2 ∧ W.cell? ⟨g, 3, none⟩ = some x3 ∧ W.cell? ⟨g, 4, none⟩ = some x4) ∧
      (W.cell? ⟨h, 0, none⟩ = some y0 ∧ W.cell? ⟨h, 1, none⟩ = some y1 ∧ W.cell? ⟨h, 2, none⟩ = some y2 ∧ W.cell? ⟨h, 3, none⟩ = some y3 ∧ W.cell? ⟨h, 4, none⟩ = some y4) ∧ Below w.heap.size w W) :
    (w'.cell? ⟨g, 0, none⟩ = some x0 ∧ w'.cell? ⟨g, 1, none⟩ = some x1 ∧ w'.cell? ⟨g, 2, none⟩ = some x2 ∧ w'.cell? ⟨g, 3, none⟩ = some x3 ∧ w'.cell? ⟨g, 4, none⟩ = some x4) ∧
      (w'.cell? ⟨h, 0, none⟩ = some y0 ∧ w'.cell? ⟨h, 1, none⟩ = some y1 ∧ w'.cell? ⟨h, 2, none⟩ = some y2 ∧ w'.cell? ⟨h, 3, none⟩ = some y3 ∧ w'.cell? ⟨h, 4, none⟩ = some y4) ∧ Below w.heap.size w w' := by
  obtain ⟨⟨h0, h1, h2, h3, h4⟩, ⟨k0, k1, k2, k3, k4⟩, hB⟩ := k
  exact ⟨⟨kc hb h0, kc hb h1, kc hb h2, kc hb h3, kc hb h4⟩, ⟨kc hb k0, kc hb k1, kc hb k2, kc hb k3, kc hb k4⟩, chain hB hb⟩
theorem small_p {F : Fl} (h : Small F) (hi : IntsOk F) (hn : NumsOk F) : FlP F := by
  refine ⟨h.ok hi, hn.init, fun ls hl x hx => ?_, fun a ha => ?_⟩
  · have h1 := hn.ths ls hl x hx
    obtain ⟨j, hj, rfl⟩ := List.mem_iff_getElem.1 hl
    have h2 := (h.ths j hj).2 x hx
    exact ⟨by omega, h1⟩
  · have h1 := hn.cond a ha
    obtain ⟨j, hj, rfl⟩ := List.mem_iff_getElem.1 ha
    have h2 := h.cond j hj
    exact ⟨by omega, h1⟩
set_option maxHeartbeats 8000000 in
set_option maxRecDepth 100000 in
theorem stells_any {v : Value} {F : Fl} (x : OpsM.Ln) (hxn : NumM.inR x.n) (w : World) (hr : Regs w) (hg : EA.ErrG w) (hv : FlV w.heap.size w v F) (hi : IntsOk F) (hnm : NumsOk F) :
    Calls Tryz.prog 3 #[v, .agg #[.int .i64 x.op, .string ⟨x.reg.toArray⟩, .string ⟨x.loc.toArray⟩, .string ⟨x.label.toArray⟩, .int .i64 x.n]] w fun e w' => e = .returned (.bool true) ∧ Below w.heap.size w w' := by
  obtain ⟨vi, vt, vc, rfl, hm⟩ := hv
  have HM := Lib.hid hm
  have HR := Lib.hid hr
  have HG := Lib.hid hg
  have HI := Lib.hid hi
  have HNM := Lib.hid hnm
  have HV : ∀ W, Below w.heap.size w W → FlV W.heap.size W (flv ⟨F.name.toArray⟩ vi vt vc F.all) F := fun W hW => ⟨vi, vt, vc, rfl, (HM.out.below hW).more hW.size⟩
  have HHd := Lib.hid (fun W (hW : Below w.heap.size w W) => shead_any W (HR.out.below hW) (HG.out.below hW))
  have HGr := Lib.hid (fun W (hW : Below w.heap.size w W) => vgreat_any W (HV W hW) (Nat.le_refl _))
  have HGL := Lib.hid (fun W => greatline_l x W)
  have HPP := Lib.hid (fun (hp : FlP F) W (hW : Below w.heap.size w W) => print_any W (HR.out.below hW) (HG.out.below hW) (HV W hW) (Nat.le_refl _) hp)
  have HRP := Lib.hid (fun (hp : FlP F) W (hW : Below w.heap.size w W) => rprint_any W (HV W hW) (Nat.le_refl _) hp)
  have HPL := Lib.hid (fun (hx : LnSm x) W (hW : Below w.heap.size w W) => sline_any x W (HR.out.below hW) hx)
  have HRL := Lib.hid (fun (hx : LnSm x) W (hW : Below w.heap.size w W) => rsline_any x W hx)
  obtain ⟨⟨A0, c0, rfl, -⟩, ⟨A2, c2, rfl, -⟩, ⟨A1, c1, rfl, -⟩⟩ := hm
  unfold flv at *
  clear HV hr hg hi hnm HM
  have hB0 := below_al (below_al (Below.refl w.heap.size w) (.cells #[.string ⟨F.name.toArray⟩, .slice A0 F.init.length c0, .slice A2 F.ths.length c2, .bool F.all, .slice A1 F.cond.length c1] 26)) (.cells #[.int .i64 x.op, .string ⟨x.reg.toArray⟩, .string ⟨x.loc.toArray⟩, .string ⟨x.label.toArray⟩, .int .i64 x.n] 28)
  have hb1 : Below (w.alloc (.cells #[.string ⟨F.name.toArray⟩, .slice A0 F.init.length c0, .slice A2 F.ths.length c2, .bool F.all, .slice A1 F.cond.length c1] 26)).heap.size (w.alloc (.cells #[.string ⟨F.name.toArray⟩, .slice A0 F.init.length c0, .slice A2 F.ths.length c2, .bool F.all, .slice A1 F.cond.length c1] 26)) ((w.alloc (.cells #[.string ⟨F.name.toArray⟩, .slice A0 F.init.length c0, .slice A2 F.ths.length c2, .bool F.all, .slice A1 F.cond.length c1] 26)).alloc (.cells #[.int .i64 x.op, .string ⟨x.reg.toArray⟩, .string ⟨x.loc.toArray⟩, .string ⟨x.label.toArray⟩, .int .i64 x.n] 28)) := below_al (Below.refl _ _) (.cells #[.int .i64 x.op, .string ⟨x.reg.toArray⟩, .string ⟨x.loc.toArray⟩, .string ⟨x.label.toArray⟩, .int .i64 x.n] 28)
  have hbx := (FlBox.at (w := w) rfl ⟨F.name.toArray⟩ (.slice A0 F.init.length c0) (.slice A2 F.ths.length c2) (.slice A1 F.cond.length c1) F.all 26).below hb1
  have hsz : (w.alloc (.cells #[.string ⟨F.name.toArray⟩, .slice A0 F.init.length c0, .slice A2 F.ths.length c2, .bool F.all, .slice A1 F.cond.length c1] 26)).heap.size = w.heap.size + 1 := by simp
  have hlx := LnBox.at (w := w.alloc (.cells #[.string ⟨F.name.toArray⟩, .slice A0 F.init.length c0, .slice A2 F.ths.length c2, .bool F.all, .slice A1 F.cond.length c1] 26)) hsz.symm x.op x.n ⟨x.reg.toArray⟩ ⟨x.loc.toArray⟩ ⟨x.label.toArray⟩ 28
  clear hb1 hsz
  go_enter Tryz.func3, Tryz.ntmps3
  go_wp2_with fail
  refine (HHd.out _ hB0).mono ?_
  rintro e w1 ⟨rfl, hbb⟩
  have hB1 := chain hB0 hbb
  have hbx1 := Lib.hid (hbx.below hbb)
  have hlx1 := Lib.hid (hlx.below hbb)
  obtain ⟨t0, t1, t2, t3, t4⟩ := hbx1.out
  clear hB0 hbx hlx hbb
  go_wp2_with fail
  refine (HGr.out _ hB1).mono ?_
  rintro e w2 ⟨b, rfl, hsm, hbb⟩
  have hB2 := chain hB1 hbb
  have hbx2 := Lib.hid (hbx1.out.below hbb)
  have hlx2 := Lib.hid (hlx1.out.below hbb)
  clear t0 t1 t2 t3 t4
  obtain ⟨l0, l1, l2, l3, l4⟩ := hlx2.out
  clear hB1 hbx1 hlx1 hbb
  cases b
  case true =>
    go_wp2
    go_ret
    exact ⟨rfl, hB2⟩
  have hp := small_p (hsm rfl) HI.out HNM.out
  replace HPP := Lib.hid (HPP.out hp)
  replace HRP := Lib.hid (HRP.out hp)
  clear hsm hp HI HNM HHd HGr
  go_wp2_with fail
  refine (HGL.out _).mono ?_
  rintro e w3 ⟨b, rfl, hsx, hbb⟩
  have hB3 := chain hB2 hbb
  obtain ⟨t0, t1, t2, t3, t4⟩ := hbx2.out.below hbb
  clear l0 l1 l2 l3 l4
  obtain ⟨l0, l1, l2, l3, l4⟩ := hlx2.out.below hbb
  clear hB2 hbx2 hlx2 hbb HGL
  cases b
  case true =>
    go_wp2
    go_ret
    exact ⟨rfl, hB3⟩
  have hx : LnSm x := ⟨by have := hsx rfl; omega, hxn⟩
  replace HPL := Lib.hid (HPL.out hx)
  replace HRL := Lib.hid (HRL.out hx)
  clear hsx hx hxn
  go_wp2
  refine wp_region_held_drew (S := (fun w' => (w'.cell? ⟨w.heap.size, 0, none⟩ = some (.string ⟨F.name.toArray⟩) ∧ w'.cell? ⟨w.heap.size, 1, none⟩ = some (.slice A0 F.init.length c0) ∧ w'.cell? ⟨w.heap.size, 2, none⟩ = some (.slice A2 F.ths.length c2) ∧ w'.cell? ⟨w.heap.size, 3, none⟩ = some (.bool F.all) ∧ w'.cell? ⟨w.heap.size, 4, none⟩ = some (.slice A1 F.cond.length c1)) ∧ (w'.cell? ⟨w.heap.size + 1, 0, none⟩ = some (.int .i64 x.op) ∧ w'.cell? ⟨w.heap.size + 1, 1, none⟩ = some (.string ⟨x.reg.toArray⟩) ∧ w'.cell? ⟨w.heap.size + 1, 2, none⟩ = some (.string ⟨x.loc.toArray⟩) ∧ w'.cell? ⟨w.heap.size + 1, 3, none⟩ = some (.string ⟨x.label.toArray⟩) ∧ w'.cell? ⟨w.heap.size + 1, 4, none⟩ = some (.int .i64 x.n)) ∧ Below w.heap.size w w')) (by kernel_rfl) ⟨⟨t0, t1, t2, t3, t4⟩, ⟨l0, l1, l2, l3, l4⟩, below_drewN hB3 1⟩ (fun hHeld => ?_)
  refine wpAnyH_take (i := 0) (v := ?_) rfl (by kernel_rfl) (by kernel_rfl) (by kernel_rfl) (fun _ _ _ h => h) (Or.inl ⟨by rfl, ?_⟩) (by assumption) ?_
  rotate_left
  · intro w hSw; (try dsimp only at hSw); go_simp; (try with_reducible rfl)
  (try simp only [Act.put, List.getElem_toArray, List.getElem_cons_zero, List.getElem_cons_succ, Array.getInternal_eq_getElem, List.setIfInBounds_toArray, List.set_cons_zero, List.set_cons_succ])
  refine wpAnyH_take (i := 1) (v := ?_) rfl (by kernel_rfl) (by kernel_rfl) (by kernel_rfl) (fun _ _ _ h => h) (Or.inl ⟨by rfl, ?_⟩) (by assumption) ?_
  rotate_left
  · intro w hSw; (try dsimp only at hSw); go_simp; (try with_reducible rfl)
  (try simp only [Act.put, List.getElem_toArray, List.getElem_cons_zero, List.getElem_cons_succ, Array.getInternal_eq_getElem, List.setIfInBounds_toArray, List.set_cons_zero, List.set_cons_succ])
  refine wpAnyH_take (i := 2) (v := ?_) rfl (by kernel_rfl) (by kernel_rfl) (by kernel_rfl) (fun _ _ _ h => h) (Or.inl ⟨by rfl, ?_⟩) (by assumption) ?_
  rotate_left
  · intro w hSw; (try dsimp only at hSw); go_simp; (try with_reducible rfl)
  (try simp only [Act.put, List.getElem_toArray, List.getElem_cons_zero, List.getElem_cons_succ, Array.getInternal_eq_getElem, List.setIfInBounds_toArray, List.set_cons_zero, List.set_cons_succ])
  refine wpAnyH_take (i := 4) (v := ?_) rfl (by kernel_rfl) (by kernel_rfl) (by kernel_rfl) (fun _ _ _ h => h) (Or.inl ⟨by rfl, ?_⟩) (by assumption) ?_
  rotate_left
  · intro w hSw; (try dsimp only at hSw); go_simp; (try with_reducible rfl)
  (try simp only [Act.put, List.getElem_toArray, List.getElem_cons_zero, List.getElem_cons_succ, Array.getInternal_eq_getElem, List.setIfInBounds_toArray, List.set_cons_zero, List.set_cons_succ])
  refine wpAnyH_ready (rs := [3]) (by kernel_rfl) (by simp) ?_
  refine AllReadyH.cons rfl (fun K hK => ?_) AllReadyH.nil
  go_simp
  go_at_call 12
  refine (HPP.out _ hHeld.2.2).mono ?_
  rintro e z0 ⟨rfl, hz0⟩
  refine hK.out _ _ (keep11b hz0 hHeld) (fun hHeld => ?_)
  clear hK K
  (try simp only [Act.put, List.getElem_toArray, List.getElem_cons_zero, List.getElem_cons_succ, Array.getInternal_eq_getElem, List.setIfInBounds_toArray, List.set_cons_zero, List.set_cons_succ])
  refine wpAnyH_ready (rs := [5]) (by kernel_rfl) (by simp) ?_
  refine AllReadyH.cons rfl (fun K hK => ?_) AllReadyH.nil
  go_simp
  go_at_call 13
  refine (HRP.out _ hHeld.2.2).mono ?_
  rintro e z1 ⟨rfl, hz1⟩
  refine hK.out _ _ (keep11b hz1 hHeld) (fun hHeld => ?_)
  clear hK K
  (try simp only [Act.put, List.getElem_toArray, List.getElem_cons_zero, List.getElem_cons_succ, Array.getInternal_eq_getElem, List.setIfInBounds_toArray, List.set_cons_zero, List.set_cons_succ])
  refine wpAnyH_take (i := 6) (v := ?_) rfl (by kernel_rfl) (by kernel_rfl) (by kernel_rfl) (fun _ _ _ h => h) (Or.inl ⟨by rfl, ?_⟩) (by assumption) ?_
  rotate_left
  · intro w hSw; (try dsimp only at hSw); go_simp; (try with_reducible rfl)
  (try simp only [Act.put, List.getElem_toArray, List.getElem_cons_zero, List.getElem_cons_succ, Array.getInternal_eq_getElem, List.setIfInBounds_toArray, List.set_cons_zero, List.set_cons_succ])
  refine wpAnyH_take (i := 7) (v := ?_) rfl (by kernel_rfl) (by kernel_rfl) (by kernel_rfl) (fun _ _ _ h => h) (Or.inl ⟨by rfl, ?_⟩) (by assumption) ?_
  rotate_left
  · intro w hSw; (try dsimp only at hSw); go_simp; (try with_reducible rfl)
  (try simp only [Act.put, List.getElem_toArray, List.getElem_cons_zero, List.getElem_cons_succ, Array.getInternal_eq_getElem, List.setIfInBounds_toArray, List.set_cons_zero, List.set_cons_succ])
  refine wpAnyH_take (i := 8) (v := ?_) rfl (by kernel_rfl) (by kernel_rfl) (by kernel_rfl) (fun _ _ _ h => h) (Or.inl ⟨by rfl, ?_⟩) (by assumption) ?_
  rotate_left
  · intro w hSw; (try dsimp only at hSw); go_simp; (try with_reducible rfl)
  (try simp only [Act.put, List.getElem_toArray, List.getElem_cons_zero, List.getElem_cons_succ, Array.getInternal_eq_getElem, List.setIfInBounds_toArray, List.set_cons_zero, List.set_cons_succ])
  refine wpAnyH_take (i := 9) (v := ?_) rfl (by kernel_rfl) (by kernel_rfl) (by kernel_rfl) (fun _ _ _ h => h) (Or.inl ⟨by rfl, ?_⟩) (by assumption) ?_
  rotate_left
  · intro w hSw; (try dsimp only at hSw); go_simp; (try with_reducible rfl)
  (try simp only [Act.put, List.getElem_toArray, List.getElem_cons_zero, List.getElem_cons_succ, Array.getInternal_eq_getElem, List.setIfInBounds_toArray, List.set_cons_zero, List.set_cons_succ])
  refine wpAnyH_take (i := 11) (v := ?_) rfl (by kernel_rfl) (by kernel_rfl) (by kernel_rfl) (fun _ _ _ h => h) (Or.inl ⟨by rfl, ?_⟩) (by assumption) ?_
  rotate_left
  · intro w hSw; (try dsimp only at hSw); go_simp; (try with_reducible rfl)
  (try simp only [Act.put, List.getElem_toArray, List.getElem_cons_zero, List.getElem_cons_succ, Array.getInternal_eq_getElem, List.setIfInBounds_toArray, List.set_cons_zero, List.set_cons_succ])
  refine wpAnyH_ready (rs := [10]) (by kernel_rfl) (by simp) ?_
  refine AllReadyH.cons rfl (fun K hK => ?_) AllReadyH.nil
  go_simp
  go_at_call 14
  refine (HPL.out _ hHeld.2.2).mono ?_
  rintro e z2 ⟨rfl, hz2⟩
  refine hK.out _ _ (keep11b hz2 hHeld) (fun hHeld => ?_)
  clear hK K
  (try simp only [Act.put, List.getElem_toArray, List.getElem_cons_zero, List.getElem_cons_succ, Array.getInternal_eq_getElem, List.setIfInBounds_toArray, List.set_cons_zero, List.set_cons_succ])
  refine wpAnyH_ready (rs := [12]) (by kernel_rfl) (by simp) ?_
  refine AllReadyH.cons rfl (fun K hK => ?_) AllReadyH.nil
  go_simp
  go_at_call 15
  refine (HRL.out _ hHeld.2.2).mono ?_
  rintro e z3 ⟨rfl, hz3⟩
  refine hK.out _ _ (keep11b hz3 hHeld) (fun hHeld => ?_)
  clear hK K
  (try simp only [Act.put, List.getElem_toArray, List.getElem_cons_zero, List.getElem_cons_succ, Array.getInternal_eq_getElem, List.setIfInBounds_toArray, List.set_cons_zero, List.set_cons_succ])
  refine wpAnyH_take (i := 13) (v := ?_) rfl (by kernel_rfl) (by kernel_rfl) (by kernel_rfl) (fun _ _ _ h => h) (Or.inl ⟨by rfl, ?_⟩) (by assumption) ?_
  rotate_left
  · intro w hSw; (try dsimp only at hSw); go_simp; (try with_reducible rfl)
  (try simp only [Act.put, List.getElem_toArray, List.getElem_cons_zero, List.getElem_cons_succ, Array.getInternal_eq_getElem, List.setIfInBounds_toArray, List.set_cons_zero, List.set_cons_succ])
  refine wpAnyH_take (i := 14) (v := ?_) rfl (by kernel_rfl) (by kernel_rfl) (by kernel_rfl) (fun _ _ _ h => h) (Or.inl ⟨by rfl, ?_⟩) (by assumption) ?_
  rotate_left
  · intro w hSw; (try dsimp only at hSw); go_simp; (try with_reducible rfl)
  (try simp only [Act.put, List.getElem_toArray, List.getElem_cons_zero, List.getElem_cons_succ, Array.getInternal_eq_getElem, List.setIfInBounds_toArray, List.set_cons_zero, List.set_cons_succ])
  refine wpAnyH_ready (rs := [15]) (by kernel_rfl) (by simp) ?_
  refine AllReadyH.cons rfl (fun K hK => ?_) AllReadyH.nil
  go_simp
  refine hK.out _ _ hHeld (fun hHeld => ?_)
  clear hK K
  (try simp only [Act.put, List.getElem_toArray, List.getElem_cons_zero, List.getElem_cons_succ, Array.getInternal_eq_getElem, List.setIfInBounds_toArray, List.set_cons_zero, List.set_cons_succ])
  refine wpAnyH_done (by kernel_rfl) ?_ _
  go_wp2
  go_ret
  exact ⟨rfl, hHeld.2.2⟩
end Go.Proofs.YtkkjodjachbifaaGreatDoor
