/-
  ValidFences, as a walk over any world that holds the registers and the type of errors: it returns true.
-/
import Derived.Test.YtclhgmopphhalaaGreatDoorVHd
import Derived.Test.YtclhgmopphhalaaGreatDoorGreat
import Derived.Test.YtclhgmopphhalaaGreatDoorRLn0
import Derived.Test.YtclhgmopphhalaaGreatDoorThStep
import Derived.Deep.RegionHeld3
import Derived.Deep.DeepCutAuto
namespace Go.Proofs.YtclhgmopphhalaaGreatDoor
open Go.RowKit
set_option linter.unusedVariables false
set_option linter.unusedSimpArgs false
open WordM (L)
open VM

theorem info_line2 : (Tryz.prog.info? 39).map (fun i => (i.zero, i.size, i.bytes)) = some (some (.agg #[.int .i64 0, .string ⟨#[]⟩, .string ⟨#[]⟩, .string ⟨#[]⟩, .int .i64 0]), 5, 64) := by kernel_rfl
theorem info_thread2 : (Tryz.prog.info? 37).map (fun i => (i.zero, i.size, i.bytes)) = some (some (.agg #[.slice none 0 0]), 1, 24) := by kernel_rfl
set_option maxHeartbeats 8000000 in
set_option maxRecDepth 100000 in
theorem vfences_law {v : Value} {F : Fl} (a b : Nat) (ha : a < 256) (hb : b < 256) (w : World) (hr : Regs w) (hg : EA.ErrG w) (hv : FlV w.heap.size w v F) (hi : IntsOk F) (hth : ThsN w v) :
    Calls Tryz.prog 8 #[v, .int .u8 a, .int .u8 b] w fun e w' => e = .returned (.bool true) ∧ Below w.heap.size w w' := by
  obtain ⟨vi, vt, vc, rfl, hm⟩ := hv
  have HM := Lib.hid hm
  have HR := Lib.hid hr
  have HG := Lib.hid hg
  have HI := Lib.hid hi
  have HV : ∀ W, Below w.heap.size w W → FlV W.heap.size W (flv ⟨F.name.toArray⟩ vi vt vc F.all) F := fun W hW => ⟨vi, vt, vc, rfl, (HM.out.below hW).more hW.size⟩
  have HHd := Lib.hid (fun W (hW : Below w.heap.size w W) => vhead_any W (HR.out.below hW) (HG.out.below hW))
  have HGr := Lib.hid (fun W (hW : Below w.heap.size w W) => vgreat_any W (HV W hW) (Nat.le_refl _))
  have HVR := Lib.hid (fun (ok : FlOk F) W (hW : Below w.heap.size w W) => vright_any W (HR.out.below hW) (HG.out.below hW) (HV W hW) (Nat.le_refl _) ok)
  have HVL := Lib.hid (fun (ok : FlOk F) W (hW : Below w.heap.size w W) => locs_any W (HR.out.below hW) (HG.out.below hW) (HV W hW) (Nat.le_refl _) ok)
  have HC1 := Lib.hid (fun (W : World) (u : Value) (G : Fl) (hW : Below w.heap.size w W) (hv : FlV W.heap.size W u G) (ok : FlOk G) => check_any W (HR.out.below hW) (HG.out.below hW) hv (Nat.le_refl _) ok)
  have HR1 := Lib.hid (fun (W : World) (u : Value) (G : Fl) (hW : Below w.heap.size w W) (hv : FlV W.heap.size W u G) (ok : FlOk G) => vright_any W (HR.out.below hW) (HG.out.below hW) hv (Nat.le_refl _) ok)
  have HL1 := Lib.hid (fun (W : World) (u : Value) (G : Fl) (hW : Below w.heap.size w W) (hv : FlV W.heap.size W u G) (ok : FlOk G) => locs_any W (HR.out.below hW) (HG.out.below hW) hv (Nat.le_refl _) ok)
  have HTH := Lib.hid hth
  obtain ⟨⟨A0, c0, rfl, -⟩, ⟨A2, c2, rfl, hb1, hb2, hb3⟩, ⟨A1, c1, rfl, -⟩⟩ := hm
  unfold maxLen at hb2
  unfold flv at *
  clear HV hr hg hi hth
  have hB0 := below_al (Below.refl w.heap.size w) (.cells #[.string ⟨F.name.toArray⟩, .slice A0 F.init.length c0, .slice A2 F.ths.length c2, .bool F.all, .slice A1 F.cond.length c1] 26)
  have hbx := FlBox.at (w := w) rfl ⟨F.name.toArray⟩ (.slice A0 F.init.length c0) (.slice A2 F.ths.length c2) (.slice A1 F.cond.length c1) F.all 26
  go_enter Tryz.func8, Tryz.ntmps8
  go_wp2_with fail
  refine (HHd.out _ hB0).mono ?_
  rintro e w1 ⟨rfl, hbb⟩
  have hB1 := chain hB0 hbb
  have hbx1 := Lib.hid (hbx.below hbb)
  obtain ⟨t0, t1, t2, t3, t4⟩ := hbx1.out
  clear hB0 hbx hbb
  go_wp2_with fail
  refine (HGr.out _ hB1).mono ?_
  rintro e w2 ⟨b', rfl, hsm, hbb⟩
  have hB2 := chain hB1 hbb
  have hbx2 := Lib.hid (hbx1.out.below hbb)
  clear t0 t1 t2 t3 t4
  obtain ⟨t0, t1, t2, t3, t4⟩ := hbx2.out
  clear hB1 hbx1 hbb
  cases b'
  case true =>
    go_wp2
    go_ret
    exact ⟨rfl, hB2⟩
  have ok := (hsm rfl).ok HI.out
  have HSM := Lib.hid (hsm rfl)
  have HOK := Lib.hid ok
  replace HVR := Lib.hid (HVR.out ok)
  replace HVL := Lib.hid (HVL.out ok)
  clear hsm ok HI HHd HGr
  go_wp2_with fail
  refine (HVR.out _ hB2).mono ?_
  rintro e w3 ⟨rfl, hbb⟩
  have hB3 := chain hB2 hbb
  have hbx3 := Lib.hid (hbx2.out.below hbb)
  clear t0 t1 t2 t3 t4
  obtain ⟨t0, t1, t2, t3, t4⟩ := hbx3.out
  clear hB2 hbx2 hbb HVR
  cases hrt : VM.right F
  · clear hrt
    go_wp2
    go_ret
    exact ⟨rfl, hB3⟩
  obtain ⟨h31, h33⟩ := right_three hrt
  have HFE := Lib.hid (fun (t k : Nat) (ht : t < F.ths.length) (hk : k ≤ F.ths[t].length) => fences hrt ht hk)
  have HRT := Lib.hid hrt
  clear hrt
  obtain ⟨t, ht⟩ : ∃ t, t = a % F.ths.length := ⟨_, rfl⟩
  have htl : t < F.ths.length := by rw [ht]; exact Nat.mod_lt _ (by omega)
  have HT := Lib.hid ht
  clear ht
  obtain ⟨b1, f1, rfl, hb1', hcl⟩ := hb3 (by omega)
  have HCL := Lib.hid hcl
  have hnil := HTH.out _ _ _ _ _ _ _ _ rfl t htl
  obtain ⟨vl, d0w, hLn⟩ := hcl t htl
  have hnv := hnil _ d0w
  have hln := (HSM.out.ths t htl).1
  have HLS := Lib.hid (HSM.out.ths t htl).2
  replace HFE := Lib.hid (fun (k : Nat) => HFE.out t k htl)
  obtain ⟨ls, hx⟩ : ∃ x, x = F.ths[t] := ⟨_, rfl⟩
  rw [← hx] at hLn hln HLS HFE
  have HX := Lib.hid hx
  obtain ⟨A3, c3, rfl, he1, he2, he3⟩ := id hLn
  unfold maxLen at he2
  have HLn := Lib.hid hLn
  have d0 := (hB3.cell (p := ⟨b1, f1 + t, none⟩) hb1').trans d0w
  clear hx hcl hb3 hLn d0w hnil HTH
  obtain ⟨k, hkk⟩ : ∃ k, k = b % (ls.length + 1) := ⟨_, rfl⟩
  have hkl : k ≤ ls.length := by have := Nat.mod_lt b (show 0 < ls.length + 1 by omega); omega
  have g1 : (a : Int) ≤ 255 := by omega
  have g2 : (b : Int) ≤ 255 := by omega
  have g3 : (F.ths.length == 0) = false := by rw [beq_eq_false_iff_ne]; omega
  have g4 : (0 : Int) < (F.ths.length : Int) := by omega
  have g5 : (a : Int) % (F.ths.length : Int) = (t : Int) := by rw [HT.out]; simp
  have g6 : (b : Int) % ((ls.length : Int) + 1) = (k : Int) := by rw [hkk]; simp
  clear hkk
  obtain ⟨i1, hi1, hy0, hy1, hy2⟩ := info_parts info_thread2
  obtain ⟨vs, hvl, hvc, hv1, hvL⟩ := cells_of_ths HCL.out
  have hBg := below_al hB3 (.cells #[.string ⟨F.name.toArray⟩, .slice A0 F.init.length c0, .slice (some ⟨b1, f1, none⟩) F.ths.length c2, .bool F.all, .slice A1 F.cond.length c1] 26)
  have HB2 := Lib.hid (below_al hBg (.cells #[] 37))
  have hL2 : Below w3.heap.size w3 ((w3.alloc (.cells #[.string ⟨F.name.toArray⟩, .slice A0 F.init.length c0, .slice (some ⟨b1, f1, none⟩) F.ths.length c2, .bool F.all, .slice A1 F.cond.length c1] 26)).alloc (.cells #[] 37)) := below_al (below_al (Below.refl w3.heap.size w3) (.cells #[.string ⟨F.name.toArray⟩, .slice A0 F.init.length c0, .slice (some ⟨b1, f1, none⟩) F.ths.length c2, .bool F.all, .slice A1 F.cond.length c1] 26)) (.cells #[] 37)
  have HVC := Lib.hid (fun (j : Nat) (u : Value) (h : vs[j]? = some u) => (show ((w3.alloc (.cells #[.string ⟨F.name.toArray⟩, .slice A0 F.init.length c0, .slice (some ⟨b1, f1, none⟩) F.ths.length c2, .bool F.all, .slice A1 F.cond.length c1] 26)).alloc (.cells #[] 37)).cell? ((⟨b1, f1, none⟩ : Addr).add j) = some u from by rw [Addr.add_lit]; exact (HB2.out.cell (p := ⟨b1, f1 + j, none⟩) hb1').trans (hvc j u h)))
  have hbx5 := hbx3.out.below hL2
  have hbg := FlBox.at (w := w3) rfl ⟨F.name.toArray⟩ (.slice A0 F.init.length c0) (.slice (some ⟨b1, f1, none⟩) F.ths.length c2) (.slice A1 F.cond.length c1) F.all 26
  have HBG := Lib.hid (hbg.below (below_al (Below.refl _ _) (.cells #[] 37)))
  have HFZ := Lib.hid (box_2 w3 #[.string ⟨F.name.toArray⟩, .slice A0 F.init.length c0, .slice (some ⟨b1, f1, none⟩) F.ths.length c2, .bool F.all, .slice A1 F.cond.length c1] 26 (.cells #[] 37) 2 rfl).2
  have HO2 := Lib.hid (show ((w3.alloc (.cells #[.string ⟨F.name.toArray⟩, .slice A0 F.init.length c0, .slice (some ⟨b1, f1, none⟩) F.ths.length c2, .bool F.all, .slice A1 F.cond.length c1] 26)).alloc (.cells #[] 37)).ownsRow w.heap.size 37 1 (.slice (some ⟨w3.heap.size + 1, 0, none⟩) 0 0) 0 [] from by
    have := World.ownsRow_lit (base := w.heap.size) (e := 37) (size := 1) (w3.alloc (.cells #[.string ⟨F.name.toArray⟩, .slice A0 F.init.length c0, .slice (some ⟨b1, f1, none⟩) F.ths.length c2, .bool F.all, .slice A1 F.cond.length c1] 26)) #[] 0 hBg.size (by decide) rfl
    simpa using this)
  have hs3 := hB3.size
  have HV1' := Lib.hid hv1
  have HVS := Lib.hid hvL
  have hg2 : ((w3.alloc (.cells #[.string ⟨F.name.toArray⟩, .slice A0 F.init.length c0, .slice (some ⟨b1, f1, none⟩) F.ths.length c2, .bool F.all, .slice A1 F.cond.length c1] 26)).alloc (.cells #[] 37)).heap.size = w3.heap.size + 1 + 1 := by simp
  have hbx5' := hbx5
  have hwl : w.heap.size < w3.heap.size := lt_of_cell hbx3.out.1
  clear hvc hBg hL2 hbg hv1 hvL
  obtain ⟨x0, x1, x2, x3, x4⟩ := hbx5
  go_wp2_with (at_builtin; refine Hid.out ?_)
  apply Lib.hid
  refine wpList_append_lies _ rfl _ _ 23 rfl w.heap.size 37 i1 (.agg #[.slice none 0 0]) 1 24 Tryz.underlying23 hi1 hy0 hy1 hy2 rfl (by decide) _ 0 [] rfl HO2.out ⟨b1, f1, none⟩ F.ths.length c2 vs rfl (by rw [hvl]; omega) HVC.out HV1'.out (by omega) (by unfold maxLen; omega) (by omega) (by rw [hg2]; omega) (w3.heap.size + 1 + 1) hg2 ?_
  intro gT capT w4 hown hgrow hat hlt4
  simp only [Nat.zero_add, List.nil_append] at hown
  obtain ⟨s2, sf, hB5, hbox5, hown5, hne5, hgl⟩ := th_step (T := (.slice (some ⟨gT, 0, none⟩) F.ths.length capT)) HB2.out hs3 (rb := w3.heap.size + 1) (by omega) (by rw [hg2]; omega) (by omega) HBG.out HFZ.out hown hgrow (by rw [hg2]; exact hat)
  obtain ⟨W5, hW5⟩ : ∃ W, W = w4.setCell ⟨w3.heap.size, 2, none⟩ (.slice (some ⟨gT, 0, none⟩) F.ths.length capT) := ⟨_, rfl⟩
  have hbxf := box_kept (gb := w3.heap.size) (T := (.slice (some ⟨gT, 0, none⟩) F.ths.length capT)) hbx5' hgrow (show w.heap.size ≠ w3.heap.size + 1 by omega) (show w3.heap.size ≠ w.heap.size by omega)
  rw [← hW5] at hB5 hbox5 hown5 hbxf
  go_upto_region 9 with fail
  rw [← hW5]
  obtain ⟨gb, hgb⟩ : ∃ g, g = w3.heap.size := ⟨_, rfl⟩
  have hgbw : w.heap.size < gb := by rw [hgb]; exact hwl
  have hgT2 : w.heap.size < gT := by
    rcases (show some (w3.heap.size + 1) = some gT ∨ gT = w3.heap.size + 1 + 1 from hat) with h | h
    · injection h with h; omega
    · omega
  rw [← hgb] at hbox5 hne5 ⊢
  obtain ⟨i0, hi0, hz0, hz1, hz2⟩ := info_parts info_line2
  have hgs : gb < W5.heap.size := lt_of_cell hbox5.1
  have hgTs : gT < W5.heap.size := (hown5.lt gT rfl).2
  have hws : w.heap.size ≤ W5.heap.size := hB5.size
  have HO5 := Lib.hid hown5
  have HBX5 := Lib.hid hbox5
  have HBF5 := Lib.hid hbxf
  obtain ⟨p0, p1, p2, p3, p4⟩ := hbox5
  have hzt : (0 : Int) ≤ (t : Int) := by omega
  have hzt2 : (t : Int) < (F.ths.length : Int) := by omega
  have hzk : (0 : Int) ≤ (k : Int) := by omega
  have hzk2 : (k : Int) ≤ (ls.length : Int) := by omega
  have hzk3 : (k : Int) ≤ (c3 : Int) := by omega
  have hzk4 : (ls.length : Int) ≤ (c3 : Int) := by omega
  have hl0 : (ls.take k).length = k := by rw [List.length_take]; omega
  have HNA := Lib.hid (fun (e : A3 = none) => (show k = 0 ∧ c3 = 0 from ⟨by
    by_cases hl0 : 0 < ls.length
    · obtain ⟨bm, fm, e2, _⟩ := he3 hl0
      rw [e2] at e; cases e
    · omega, hnv _ _ (by rw [e])⟩))
  obtain ⟨AD, hAD⟩ : ∃ A, A = (if c3 = k then A3 else Option.map (fun x => x.add (k * 5)) A3) := ⟨_, rfl⟩
  have HNB := Lib.hid (fun (e : AD = none) => (show ls.length - k = 0 ∧ c3 - k = 0 from by
    rw [hAD] at e
    by_cases hc : c3 = k
    · omega
    · rw [if_neg hc] at e
      cases hA : A3 with
      | none => have := HNA.out hA; omega
      | some ad => rw [hA] at e; cases e))
  have HBC := Lib.hid (fun W (hW : Below w.heap.size w W) => (show ∀ ad, AD = some ad → ∀ (j : Nat) (u : Value), (lnsCs (ls.drop k))[j]? = some u → W.cell? (ad.add j) = some u from by rw [hAD]; exact behind_cells hkl he1 he3 hW))
  have HE3 := Lib.hid he3
  clear x0 x1 x2 x3 x4 t0 t1 t2 t3 t4 d0 hown hgrow hat hlt4 s2 sf hW5 hi1 hy0 hy1 hy2 HO2 HVC HBG HFZ HB2 hg2 HCL hs3 g1 g2 g3 g4 g5 g6 hnv he3 hbxf hbx5' hwl hgb
  go_cut [] (fun wx => Below w.heap.size w wx ∧ FlBox wx gb ⟨F.name.toArray⟩ (.slice A0 F.init.length c0) (.slice (some ⟨gT, 0, none⟩) F.ths.length capT) (.slice A1 F.cond.length c1) F.all ∧ FlBox wx w.heap.size ⟨F.name.toArray⟩ (.slice A0 F.init.length c0) (.slice (some ⟨b1, f1, none⟩) F.ths.length c2) (.slice A1 F.cond.length c1) F.all ∧ FlV wx.heap.size wx (.agg #[.string ⟨F.name.toArray⟩, .slice A0 F.init.length c0, .slice (some ⟨gT, 0, none⟩) F.ths.length capT, .bool F.all, .slice A1 F.cond.length c1]) (setT F t (ls.take k ++ fen :: ls.drop k)))
  case first =>
    refine wp_region_held_drew (S := (fun w' => w'.cell? ⟨gb, 2, none⟩ = some (.slice (some ⟨gT, 0, none⟩) F.ths.length capT) ∧ Below w.heap.size w w')) (by kernel_rfl) ⟨p2, below_drewN hB5 1⟩ (fun hHeld => ?_)
    obtain ⟨X0, hX0⟩ : ∃ W, W = W5.drew := ⟨_, rfl⟩
    have HLX0 := Lib.hid (show Below W5.heap.size W5 X0 from by rw [hX0]; exact below_drewN (Below.refl _ _) 1)
    rw [← hX0] at hHeld ⊢
    clear hX0
    refine wpAnyH_take (i := 0) (v := ?_) rfl (by kernel_rfl) (by kernel_rfl) (by kernel_rfl) (fun _ _ _ h => h) (Or.inl ⟨by rfl, ?_⟩) (by assumption) ?_
    rotate_left
    · intro w hSw; (try dsimp only at hSw); go_simp; (try with_reducible rfl)
    (try simp only [Act.put, List.getElem_toArray, List.getElem_cons_zero, List.getElem_cons_succ, Array.getInternal_eq_getElem, List.setIfInBounds_toArray, List.set_cons_zero, List.set_cons_succ])
    refine wpAnyH_take (i := 1) (v := ?_) rfl (by kernel_rfl) (by kernel_rfl) (by kernel_rfl) (fun _ _ _ h => h) (Or.inl ⟨by rfl, ?_⟩) (by assumption) ?_
    rotate_left
    · intro w hSw; (try dsimp only at hSw); go_simp; (try with_reducible rfl)
    (try simp only [Act.put, List.getElem_toArray, List.getElem_cons_zero, List.getElem_cons_succ, Array.getInternal_eq_getElem, List.setIfInBounds_toArray, List.set_cons_zero, List.set_cons_succ])
    refine wpAnyH_take (i := 2) (v := ?_) rfl (by kernel_rfl) (by kernel_rfl) (by kernel_rfl) (fun _ _ _ h => h) (Or.inl ⟨by rfl, ?_⟩) (by assumption) ?_
    rotate_left
    · intro w hSw; (try dsimp only at hSw); go_simp; (try with_reducible rfl)
    (try simp only [Act.put, List.getElem_toArray, List.getElem_cons_zero, List.getElem_cons_succ, Array.getInternal_eq_getElem, List.setIfInBounds_toArray, List.set_cons_zero, List.set_cons_succ])
    refine wpAnyH_take (i := 4) (v := ?_) rfl (by kernel_rfl) (by kernel_rfl) (by kernel_rfl) (fun _ _ _ h => h) (Or.inl ⟨by rfl, ?_⟩) (by assumption) ?_
    rotate_left
    · intro w hSw; (try dsimp only at hSw); go_simp; (try with_reducible rfl)
    (try simp only [Act.put, List.getElem_toArray, List.getElem_cons_zero, List.getElem_cons_succ, Array.getInternal_eq_getElem, List.setIfInBounds_toArray, List.set_cons_zero, List.set_cons_succ])
    refine wpAnyH_take (i := 5) (v := ?_) rfl (by kernel_rfl) (by kernel_rfl) (by kernel_rfl) (fun _ _ _ h => h) (Or.inl ⟨by rfl, ?_⟩) (by assumption) ?_
    rotate_left
    · intro w hSw; (try dsimp only at hSw); go_simp; (try with_reducible rfl)
    (try simp only [Act.put, List.getElem_toArray, List.getElem_cons_zero, List.getElem_cons_succ, Array.getInternal_eq_getElem, List.setIfInBounds_toArray, List.set_cons_zero, List.set_cons_succ])
    refine wpAnyH_take (i := 6) (v := ?_) rfl (by kernel_rfl) (by kernel_rfl) (by kernel_rfl) (fun _ _ _ h => h) (Or.inl ⟨by rfl, ?_⟩) (by assumption) ?_
    rotate_left
    · intro w hSw; (try dsimp only at hSw); go_simp; (try with_reducible rfl)
    (try simp only [Act.put, List.getElem_toArray, List.getElem_cons_zero, List.getElem_cons_succ, Array.getInternal_eq_getElem, List.setIfInBounds_toArray, List.set_cons_zero, List.set_cons_succ])
    refine wpAnyH_take (i := 8) (v := ?_) rfl (by kernel_rfl) (by kernel_rfl) (by kernel_rfl) (fun _ _ _ h => h) (Or.inl ⟨by rfl, ?_⟩) (by assumption) ?_
    rotate_left
    · intro w hSw; (try dsimp only at hSw); go_simp; (try with_reducible rfl)
    (try simp only [Act.put, List.getElem_toArray, List.getElem_cons_zero, List.getElem_cons_succ, Array.getInternal_eq_getElem, List.setIfInBounds_toArray, List.set_cons_zero, List.set_cons_succ])
    refine wpAnyH_take (i := 11) (v := ?_) rfl (by kernel_rfl) (by kernel_rfl) (by kernel_rfl) (fun _ _ _ h => h) (Or.inl ⟨by rfl, ?_⟩) (by assumption) ?_
    rotate_left
    · intro w hSw; (try dsimp only at hSw); go_simp; (try with_reducible rfl)
    (try simp only [Act.put, List.getElem_toArray, List.getElem_cons_zero, List.getElem_cons_succ, Array.getInternal_eq_getElem, List.setIfInBounds_toArray, List.set_cons_zero, List.set_cons_succ])
    refine wpAnyH_take (i := 12) (v := ?_) rfl (by kernel_rfl) (by kernel_rfl) (by kernel_rfl) (fun _ _ _ h => h) (Or.inl ⟨by rfl, ?_⟩) (by assumption) ?_
    rotate_left
    · intro w hSw; (try dsimp only at hSw); go_simp; (try with_reducible rfl)
    (try simp only [Act.put, List.getElem_toArray, List.getElem_cons_zero, List.getElem_cons_succ, Array.getInternal_eq_getElem, List.setIfInBounds_toArray, List.set_cons_zero, List.set_cons_succ])
    refine wpAnyH_take (i := 13) (v := ?_) rfl (by kernel_rfl) (by kernel_rfl) (by kernel_rfl) (fun _ _ _ h => h) (Or.inl ⟨by rfl, ?_⟩) (by assumption) ?_
    rotate_left
    · intro w hSw; (try dsimp only at hSw); go_simp; (try with_reducible rfl)
    (try simp only [Act.put, List.getElem_toArray, List.getElem_cons_zero, List.getElem_cons_succ, Array.getInternal_eq_getElem, List.setIfInBounds_toArray, List.set_cons_zero, List.set_cons_succ])
    refine wpAnyH_ready (rs := [3, 9]) (by kernel_rfl) (by simp) ?_
    refine AllReadyH.cons rfl (fun K hK => ?_) (AllReadyH.cons rfl (fun K hK => ?_) (AllReadyH.nil))
    · -- 3 first
      go_simp
      refine hK.out _ _ ⟨kc (below_al HLX0.out (.cells #[] 39)) p2, chain hB5 (below_al HLX0.out (.cells #[] 39))⟩ (fun hHeld => ?_)
      clear hK K
      (try simp only [Act.put, List.getElem_toArray, List.getElem_cons_zero, List.getElem_cons_succ, Array.getInternal_eq_getElem, List.setIfInBounds_toArray, List.set_cons_zero, List.set_cons_succ])
      obtain ⟨X3, hX3⟩ : ∃ W, W = X0.alloc (.cells #[] 39) := ⟨_, rfl⟩
      have HLX3 := Lib.hid (show Below W5.heap.size W5 X3 from by rw [hX3]; exact below_al HLX0.out (.cells #[] 39))
      have HO := Lib.hid (show X3.ownsRow W5.heap.size 39 5 (.slice (some ⟨X0.heap.size, 0, none⟩) 0 0) 0 [] from by rw [hX3]; exact World.ownsRow_lit (base := W5.heap.size) (e := 39) (size := 5) X0 #[] 0 HLX0.out.size (by decide) rfl)
      have HS3 := Lib.hid (show X3.heap.size = X0.heap.size + 1 from by rw [hX3]; simp)
      rw [← hX3] at hHeld ⊢
      clear hX3
      rw [← hAD]
      clear hAD
      refine wpAnyH_ready (rs := [7, 9]) (by kernel_rfl) (by simp) ?_
      refine AllReadyH.cons rfl (fun K hK => ?_) (AllReadyH.cons rfl (fun K hK => ?_) (AllReadyH.nil))
      · -- 7 first
        refine step_append_src (by rfl) _ _ _ (by rfl) W5.heap.size 39 i0 (.agg #[.int .i64 0, .string ⟨#[]⟩, .string ⟨#[]⟩, .string ⟨#[]⟩, .int .i64 0]) 5 64 Tryz.underlying35 hi0 hz0 hz1 hz2 (by rfl) (by decide) _ 0 [] (by rfl) HO.out A3 k c3 (lnsCs (ls.take k)) (by rfl) (by rw [lnsCs_len, hl0]) HNA.out (ahead_cells (c := c3) hkl HE3.out (chain hB5 HLX3.out)) (lnsCs_one _) (by unfold maxLen; omega) (by omega) HLX3.out.size (fun v1 w7 hown7 hg7 => ?_)
        simp only [Nat.zero_add, List.nil_append] at hown7
        have HLw7 := Lib.hid (below_append HLX3.out HO.out (Nat.le_refl _) HLX3.out.size hg7)
        replace HO := Lib.hid hown7
        clear hown7 hg7
        refine hK.out _ _ ⟨kc HLw7.out p2, chain hB5 HLw7.out⟩ (fun hHeld => ?_)
        clear hK K
        (try simp only [Act.put, List.getElem_toArray, List.getElem_cons_zero, List.getElem_cons_succ, Array.getInternal_eq_getElem, List.setIfInBounds_toArray, List.set_cons_zero, List.set_cons_succ])
        refine wpAnyH_ready (rs := [9]) (by kernel_rfl) (by simp) ?_
        refine AllReadyH.cons rfl (fun K hK => ?_) AllReadyH.nil
        go_simp
        refine hK.out _ _ ⟨kc (below_al HLw7.out (.cells #[.int .i64 6, .string ⟨#[]⟩, .string ⟨#[]⟩, .string ⟨#[]⟩, .int .i64 0] 39)) p2, chain hB5 (below_al HLw7.out (.cells #[.int .i64 6, .string ⟨#[]⟩, .string ⟨#[]⟩, .string ⟨#[]⟩, .int .i64 0] 39))⟩ (fun hHeld => ?_)
        clear hK K
        (try simp only [Act.put, List.getElem_toArray, List.getElem_cons_zero, List.getElem_cons_succ, Array.getInternal_eq_getElem, List.setIfInBounds_toArray, List.set_cons_zero, List.set_cons_succ])
        obtain ⟨X9, hX9⟩ : ∃ W, W = w7.alloc (.cells #[.int .i64 6, .string ⟨#[]⟩, .string ⟨#[]⟩, .string ⟨#[]⟩, .int .i64 0] 39) := ⟨_, rfl⟩
        have HLX9 := Lib.hid (show Below W5.heap.size W5 X9 from by rw [hX9]; exact below_al HLw7.out (.cells #[.int .i64 6, .string ⟨#[]⟩, .string ⟨#[]⟩, .string ⟨#[]⟩, .int .i64 0] 39))
        have HF := Lib.hid (fun (j : Nat) (u : Value) (h : (lnsCs [fen])[j]? = some u) => (show X9.cell? ⟨w7.heap.size, j, none⟩ = some u from by
          have e := World.news_of_block (heap_alloc_new w7 (.cells #[.int .i64 6, .string ⟨#[]⟩, .string ⟨#[]⟩, .string ⟨#[]⟩, .int .i64 0] 39)) j u h
          rw [Addr.add_lit, Nat.zero_add] at e
          rw [hX9]; exact e))
        have HS9 := Lib.hid (show X9.heap.size = w7.heap.size + 1 from by rw [hX9]; simp)
        replace HO := Lib.hid (own_below HO.out (show Below w7.heap.size w7 X9 from by rw [hX9]; exact below_al (Below.refl _ _) (.cells #[.int .i64 6, .string ⟨#[]⟩, .string ⟨#[]⟩, .string ⟨#[]⟩, .int .i64 0] 39)))
        rw [← hX9] at hHeld ⊢
        clear hX9
        refine wpAnyH_ready (rs := [10]) (by kernel_rfl) (by simp) ?_
        refine AllReadyH.cons rfl (fun K hK => ?_) AllReadyH.nil
        refine step_append_src (by rfl) _ _ _ (by rfl) W5.heap.size 39 i0 (.agg #[.int .i64 0, .string ⟨#[]⟩, .string ⟨#[]⟩, .string ⟨#[]⟩, .int .i64 0]) 5 64 Tryz.underlying35 hi0 hz0 hz1 hz2 (by rfl) (by decide) _ k (lnsCs (ls.take k)) (by rfl) HO.out (some ⟨w7.heap.size, 0, none⟩) 1 1 (lnsCs [fen]) (by rfl) (by rfl) (fun c => (by cases c)) (fun ad e j u h => by injection e with e; rw [← e, Addr.add_lit, Nat.zero_add]; exact HF.out j u h) (lnsCs_one _) (by unfold maxLen; omega) (by omega) HLX9.out.size (fun v2 w10 hown10 hg10 => ?_)
        have HLw10 := Lib.hid (below_append HLX9.out HO.out (Nat.le_refl _) HLX9.out.size hg10)
        replace HO := Lib.hid hown10
        clear hown10 hg10 HF
        refine hK.out _ _ ⟨kc HLw10.out p2, chain hB5 HLw10.out⟩ (fun hHeld => ?_)
        clear hK K
        (try simp only [Act.put, List.getElem_toArray, List.getElem_cons_zero, List.getElem_cons_succ, Array.getInternal_eq_getElem, List.setIfInBounds_toArray, List.set_cons_zero, List.set_cons_succ])
        refine wpAnyH_ready (rs := [14]) (by kernel_rfl) (by simp) ?_
        refine AllReadyH.cons rfl (fun K hK => ?_) AllReadyH.nil
        refine step_append_src (by rfl) _ _ _ (by rfl) W5.heap.size 39 i0 (.agg #[.int .i64 0, .string ⟨#[]⟩, .string ⟨#[]⟩, .string ⟨#[]⟩, .int .i64 0]) 5 64 Tryz.underlying35 hi0 hz0 hz1 hz2 (by rfl) (by decide) _ (k + 1) (lnsCs (ls.take k) ++ lnsCs [fen]) (by rfl) HO.out AD (ls.length - k) (c3 - k) (lnsCs (ls.drop k)) (by rfl) (by rw [lnsCs_len, List.length_drop]) HNB.out (HBC.out _ (chain hB5 HLw10.out)) (lnsCs_one _) (by unfold maxLen; omega) (by omega) HLw10.out.size (fun v2 w14 hown14 hg14 => ?_)
        obtain ⟨N, hN⟩ : ∃ n, n = k + 1 + (ls.length - k) := ⟨_, rfl⟩
        rw [← hN, ← lnsCs_app, ← lnsCs_app, List.append_assoc, List.singleton_append] at hown14
        have HN := Lib.hid hN
        clear hN
        have HL14 := Lib.hid (below_append HLw10.out HO.out (Nat.le_refl _) HLw10.out.size hg14)
        obtain ⟨A8, c8, rfl⟩ := own_slice hown14
        have HO8 := Lib.hid hown14
        have hB8 := chain hB5 HL14.out
        have HT8 := Lib.hid (own_below HO5.out HL14.out)
        obtain ⟨old, hold⟩ : ∃ o, vs[t]? = some o := ⟨_, List.getElem?_eq_getElem (by omega)⟩
        have c9 : w14.cell? ⟨gT, t, none⟩ = some old := by rw [HT8.out.cellAt t (by omega)]; exact hold
        have f9 := HT8.out.frozenAt t
        clear hown14 hg14 HO hold
        refine hK.out _ _ ⟨kc HL14.out p2, hB8⟩ (fun hHeld => ?_)
        clear hK K
        (try simp only [Act.put, List.getElem_toArray, List.getElem_cons_zero, List.getElem_cons_succ, Array.getInternal_eq_getElem, List.setIfInBounds_toArray, List.set_cons_zero, List.set_cons_succ])
        refine wpAnyH_take (i := 15) (v := ?_) rfl (by kernel_rfl) (by kernel_rfl) (by kernel_rfl) (fun _ _ _ h => h) (Or.inl ⟨by rfl, ?_⟩) (by assumption) ?_
        rotate_left
        · intro w hSw; (try dsimp only at hSw); go_simp; (try with_reducible rfl)
        (try simp only [Act.put, List.getElem_toArray, List.getElem_cons_zero, List.getElem_cons_succ, Array.getInternal_eq_getElem, List.setIfInBounds_toArray, List.set_cons_zero, List.set_cons_succ])
        refine wpAnyH_take (i := 16) (v := ?_) rfl (by kernel_rfl) (by kernel_rfl) (by kernel_rfl) (fun _ _ _ h => h) (Or.inl ⟨by rfl, ?_⟩) (by assumption) ?_
        rotate_left
        · intro w hSw; (try dsimp only at hSw); go_simp; (try with_reducible rfl)
        (try simp only [Act.put, List.getElem_toArray, List.getElem_cons_zero, List.getElem_cons_succ, Array.getInternal_eq_getElem, List.setIfInBounds_toArray, List.set_cons_zero, List.set_cons_succ])
        refine wpAnyH_ready (rs := [17]) (by kernel_rfl) (by simp) ?_
        refine AllReadyH.cons rfl (fun K hK => ?_) AllReadyH.nil
        go_simp
        refine hK.out _ _ ⟨set_oth (.inl (Ne.symm hne5)) (kc HL14.out p2), hB8.setCell (p := ⟨gT, t, none⟩) hgl _⟩ (fun hHeld => ?_)
        clear hK K
        (try simp only [Act.put, List.getElem_toArray, List.getElem_cons_zero, List.getElem_cons_succ, Array.getInternal_eq_getElem, List.setIfInBounds_toArray, List.set_cons_zero, List.set_cons_succ])
        refine wpAnyH_done (by kernel_rfl) ?_ _
        have hNl : (ls.take k ++ fen :: ls.drop k).length = N := by rw [List.length_append, List.length_cons, List.length_drop, hl0]; have := HN.out; omega
        have HB9 := Lib.hid (hB8.setCell (p := ⟨gT, t, none⟩) hgl (.slice A8 N c8))
        have HFL := Lib.hid (fl_set HB9.out HM.out hvl HVS.out (HT8.out.stored t (.slice A8 N c8)).1 htl (lns_of_own (ls := ls.take k ++ fen :: ls.drop k) (by rw [hNl]; exact own_set HO8.out (fun k hk => by have := (HO8.out.lt k hk).1; omega)) (Nat.le_refl _)))
        have HG9 := Lib.hid (box_set (i := t) (u := .slice A8 N c8) (HBX5.out.below HL14.out) (Ne.symm hne5))
        have HF9 := Lib.hid (box_set (i := t) (u := .slice A8 N c8) (HBF5.out.below HL14.out) (show gT ≠ w.heap.size by omega))
        clear p0 p1 p2 p3 p4 c9 f9 HT8 HO8 HO5 HBX5 hHeld
        go_wp2_with fail
        go_meet
        exact ⟨HB9.out, HG9.out, HF9.out, HFL.out⟩
      · -- 9 first
        go_simp
        refine hK.out _ _ ⟨kc (below_al HLX3.out (.cells #[.int .i64 6, .string ⟨#[]⟩, .string ⟨#[]⟩, .string ⟨#[]⟩, .int .i64 0] 39)) p2, chain hB5 (below_al HLX3.out (.cells #[.int .i64 6, .string ⟨#[]⟩, .string ⟨#[]⟩, .string ⟨#[]⟩, .int .i64 0] 39))⟩ (fun hHeld => ?_)
        clear hK K
        (try simp only [Act.put, List.getElem_toArray, List.getElem_cons_zero, List.getElem_cons_succ, Array.getInternal_eq_getElem, List.setIfInBounds_toArray, List.set_cons_zero, List.set_cons_succ])
        obtain ⟨X9, hX9⟩ : ∃ W, W = X3.alloc (.cells #[.int .i64 6, .string ⟨#[]⟩, .string ⟨#[]⟩, .string ⟨#[]⟩, .int .i64 0] 39) := ⟨_, rfl⟩
        have HLX9 := Lib.hid (show Below W5.heap.size W5 X9 from by rw [hX9]; exact below_al HLX3.out (.cells #[.int .i64 6, .string ⟨#[]⟩, .string ⟨#[]⟩, .string ⟨#[]⟩, .int .i64 0] 39))
        have HF := Lib.hid (fun (j : Nat) (u : Value) (h : (lnsCs [fen])[j]? = some u) => (show X9.cell? ⟨X3.heap.size, j, none⟩ = some u from by
          have e := World.news_of_block (heap_alloc_new X3 (.cells #[.int .i64 6, .string ⟨#[]⟩, .string ⟨#[]⟩, .string ⟨#[]⟩, .int .i64 0] 39)) j u h
          rw [Addr.add_lit, Nat.zero_add] at e
          rw [hX9]; exact e))
        have HS9 := Lib.hid (show X9.heap.size = X3.heap.size + 1 from by rw [hX9]; simp)
        replace HO := Lib.hid (own_below HO.out (show Below X3.heap.size X3 X9 from by rw [hX9]; exact below_al (Below.refl _ _) (.cells #[.int .i64 6, .string ⟨#[]⟩, .string ⟨#[]⟩, .string ⟨#[]⟩, .int .i64 0] 39)))
        rw [← hX9] at hHeld ⊢
        clear hX9
        refine wpAnyH_ready (rs := [7]) (by kernel_rfl) (by simp) ?_
        refine AllReadyH.cons rfl (fun K hK => ?_) AllReadyH.nil
        refine step_append_src (by rfl) _ _ _ (by rfl) W5.heap.size 39 i0 (.agg #[.int .i64 0, .string ⟨#[]⟩, .string ⟨#[]⟩, .string ⟨#[]⟩, .int .i64 0]) 5 64 Tryz.underlying35 hi0 hz0 hz1 hz2 (by rfl) (by decide) _ 0 [] (by rfl) HO.out A3 k c3 (lnsCs (ls.take k)) (by rfl) (by rw [lnsCs_len, hl0]) HNA.out (ahead_cells (c := c3) hkl HE3.out (chain hB5 HLX9.out)) (lnsCs_one _) (by unfold maxLen; omega) (by omega) HLX9.out.size (fun v1 w7 hown7 hg7 => ?_)
        simp only [Nat.zero_add, List.nil_append] at hown7
        have HLw7 := Lib.hid (below_append HLX9.out HO.out (Nat.le_refl _) HLX9.out.size hg7)
        replace HF := Lib.hid (fun (j : Nat) (u : Value) (h : (lnsCs [fen])[j]? = some u) => hg7.cell (HF.out j u h) (show some X3.heap.size ≠ some X0.heap.size from fun e => by injection e with e; have h3 := HS3.out; have h9 := HS9.out; omega))
        replace HO := Lib.hid hown7
        clear hown7 hg7
        refine hK.out _ _ ⟨kc HLw7.out p2, chain hB5 HLw7.out⟩ (fun hHeld => ?_)
        clear hK K
        (try simp only [Act.put, List.getElem_toArray, List.getElem_cons_zero, List.getElem_cons_succ, Array.getInternal_eq_getElem, List.setIfInBounds_toArray, List.set_cons_zero, List.set_cons_succ])
        refine wpAnyH_ready (rs := [10]) (by kernel_rfl) (by simp) ?_
        refine AllReadyH.cons rfl (fun K hK => ?_) AllReadyH.nil
        refine step_append_src (by rfl) _ _ _ (by rfl) W5.heap.size 39 i0 (.agg #[.int .i64 0, .string ⟨#[]⟩, .string ⟨#[]⟩, .string ⟨#[]⟩, .int .i64 0]) 5 64 Tryz.underlying35 hi0 hz0 hz1 hz2 (by rfl) (by decide) _ k (lnsCs (ls.take k)) (by rfl) HO.out (some ⟨X3.heap.size, 0, none⟩) 1 1 (lnsCs [fen]) (by rfl) (by rfl) (fun c => (by cases c)) (fun ad e j u h => by injection e with e; rw [← e, Addr.add_lit, Nat.zero_add]; exact HF.out j u h) (lnsCs_one _) (by unfold maxLen; omega) (by omega) HLw7.out.size (fun v2 w10 hown10 hg10 => ?_)
        have HLw10 := Lib.hid (below_append HLw7.out HO.out (Nat.le_refl _) HLw7.out.size hg10)
        replace HO := Lib.hid hown10
        clear hown10 hg10 HF
        refine hK.out _ _ ⟨kc HLw10.out p2, chain hB5 HLw10.out⟩ (fun hHeld => ?_)
        clear hK K
        (try simp only [Act.put, List.getElem_toArray, List.getElem_cons_zero, List.getElem_cons_succ, Array.getInternal_eq_getElem, List.setIfInBounds_toArray, List.set_cons_zero, List.set_cons_succ])
        refine wpAnyH_ready (rs := [14]) (by kernel_rfl) (by simp) ?_
        refine AllReadyH.cons rfl (fun K hK => ?_) AllReadyH.nil
        refine step_append_src (by rfl) _ _ _ (by rfl) W5.heap.size 39 i0 (.agg #[.int .i64 0, .string ⟨#[]⟩, .string ⟨#[]⟩, .string ⟨#[]⟩, .int .i64 0]) 5 64 Tryz.underlying35 hi0 hz0 hz1 hz2 (by rfl) (by decide) _ (k + 1) (lnsCs (ls.take k) ++ lnsCs [fen]) (by rfl) HO.out AD (ls.length - k) (c3 - k) (lnsCs (ls.drop k)) (by rfl) (by rw [lnsCs_len, List.length_drop]) HNB.out (HBC.out _ (chain hB5 HLw10.out)) (lnsCs_one _) (by unfold maxLen; omega) (by omega) HLw10.out.size (fun v2 w14 hown14 hg14 => ?_)
        obtain ⟨N, hN⟩ : ∃ n, n = k + 1 + (ls.length - k) := ⟨_, rfl⟩
        rw [← hN, ← lnsCs_app, ← lnsCs_app, List.append_assoc, List.singleton_append] at hown14
        have HN := Lib.hid hN
        clear hN
        have HL14 := Lib.hid (below_append HLw10.out HO.out (Nat.le_refl _) HLw10.out.size hg14)
        obtain ⟨A8, c8, rfl⟩ := own_slice hown14
        have HO8 := Lib.hid hown14
        have hB8 := chain hB5 HL14.out
        have HT8 := Lib.hid (own_below HO5.out HL14.out)
        obtain ⟨old, hold⟩ : ∃ o, vs[t]? = some o := ⟨_, List.getElem?_eq_getElem (by omega)⟩
        have c9 : w14.cell? ⟨gT, t, none⟩ = some old := by rw [HT8.out.cellAt t (by omega)]; exact hold
        have f9 := HT8.out.frozenAt t
        clear hown14 hg14 HO hold
        refine hK.out _ _ ⟨kc HL14.out p2, hB8⟩ (fun hHeld => ?_)
        clear hK K
        (try simp only [Act.put, List.getElem_toArray, List.getElem_cons_zero, List.getElem_cons_succ, Array.getInternal_eq_getElem, List.setIfInBounds_toArray, List.set_cons_zero, List.set_cons_succ])
        refine wpAnyH_take (i := 15) (v := ?_) rfl (by kernel_rfl) (by kernel_rfl) (by kernel_rfl) (fun _ _ _ h => h) (Or.inl ⟨by rfl, ?_⟩) (by assumption) ?_
        rotate_left
        · intro w hSw; (try dsimp only at hSw); go_simp; (try with_reducible rfl)
        (try simp only [Act.put, List.getElem_toArray, List.getElem_cons_zero, List.getElem_cons_succ, Array.getInternal_eq_getElem, List.setIfInBounds_toArray, List.set_cons_zero, List.set_cons_succ])
        refine wpAnyH_take (i := 16) (v := ?_) rfl (by kernel_rfl) (by kernel_rfl) (by kernel_rfl) (fun _ _ _ h => h) (Or.inl ⟨by rfl, ?_⟩) (by assumption) ?_
        rotate_left
        · intro w hSw; (try dsimp only at hSw); go_simp; (try with_reducible rfl)
        (try simp only [Act.put, List.getElem_toArray, List.getElem_cons_zero, List.getElem_cons_succ, Array.getInternal_eq_getElem, List.setIfInBounds_toArray, List.set_cons_zero, List.set_cons_succ])
        refine wpAnyH_ready (rs := [17]) (by kernel_rfl) (by simp) ?_
        refine AllReadyH.cons rfl (fun K hK => ?_) AllReadyH.nil
        go_simp
        refine hK.out _ _ ⟨set_oth (.inl (Ne.symm hne5)) (kc HL14.out p2), hB8.setCell (p := ⟨gT, t, none⟩) hgl _⟩ (fun hHeld => ?_)
        clear hK K
        (try simp only [Act.put, List.getElem_toArray, List.getElem_cons_zero, List.getElem_cons_succ, Array.getInternal_eq_getElem, List.setIfInBounds_toArray, List.set_cons_zero, List.set_cons_succ])
        refine wpAnyH_done (by kernel_rfl) ?_ _
        have hNl : (ls.take k ++ fen :: ls.drop k).length = N := by rw [List.length_append, List.length_cons, List.length_drop, hl0]; have := HN.out; omega
        have HB9 := Lib.hid (hB8.setCell (p := ⟨gT, t, none⟩) hgl (.slice A8 N c8))
        have HFL := Lib.hid (fl_set HB9.out HM.out hvl HVS.out (HT8.out.stored t (.slice A8 N c8)).1 htl (lns_of_own (ls := ls.take k ++ fen :: ls.drop k) (by rw [hNl]; exact own_set HO8.out (fun k hk => by have := (HO8.out.lt k hk).1; omega)) (Nat.le_refl _)))
        have HG9 := Lib.hid (box_set (i := t) (u := .slice A8 N c8) (HBX5.out.below HL14.out) (Ne.symm hne5))
        have HF9 := Lib.hid (box_set (i := t) (u := .slice A8 N c8) (HBF5.out.below HL14.out) (show gT ≠ w.heap.size by omega))
        clear p0 p1 p2 p3 p4 c9 f9 HT8 HO8 HO5 HBX5 hHeld
        go_wp2_with fail
        go_meet
        exact ⟨HB9.out, HG9.out, HF9.out, HFL.out⟩
    · -- 9 first
      go_simp
      refine hK.out _ _ ⟨kc (below_al HLX0.out (.cells #[.int .i64 6, .string ⟨#[]⟩, .string ⟨#[]⟩, .string ⟨#[]⟩, .int .i64 0] 39)) p2, chain hB5 (below_al HLX0.out (.cells #[.int .i64 6, .string ⟨#[]⟩, .string ⟨#[]⟩, .string ⟨#[]⟩, .int .i64 0] 39))⟩ (fun hHeld => ?_)
      clear hK K
      (try simp only [Act.put, List.getElem_toArray, List.getElem_cons_zero, List.getElem_cons_succ, Array.getInternal_eq_getElem, List.setIfInBounds_toArray, List.set_cons_zero, List.set_cons_succ])
      obtain ⟨X9, hX9⟩ : ∃ W, W = X0.alloc (.cells #[.int .i64 6, .string ⟨#[]⟩, .string ⟨#[]⟩, .string ⟨#[]⟩, .int .i64 0] 39) := ⟨_, rfl⟩
      have HLX9 := Lib.hid (show Below W5.heap.size W5 X9 from by rw [hX9]; exact below_al HLX0.out (.cells #[.int .i64 6, .string ⟨#[]⟩, .string ⟨#[]⟩, .string ⟨#[]⟩, .int .i64 0] 39))
      have HF := Lib.hid (fun (j : Nat) (u : Value) (h : (lnsCs [fen])[j]? = some u) => (show X9.cell? ⟨X0.heap.size, j, none⟩ = some u from by
        have e := World.news_of_block (heap_alloc_new X0 (.cells #[.int .i64 6, .string ⟨#[]⟩, .string ⟨#[]⟩, .string ⟨#[]⟩, .int .i64 0] 39)) j u h
        rw [Addr.add_lit, Nat.zero_add] at e
        rw [hX9]; exact e))
      have HS9 := Lib.hid (show X9.heap.size = X0.heap.size + 1 from by rw [hX9]; simp)
      rw [← hX9] at hHeld ⊢
      clear hX9
      rw [← hAD]
      clear hAD
      refine wpAnyH_ready (rs := [3]) (by kernel_rfl) (by simp) ?_
      refine AllReadyH.cons rfl (fun K hK => ?_) AllReadyH.nil
      go_simp
      refine hK.out _ _ ⟨kc (below_al HLX9.out (.cells #[] 39)) p2, chain hB5 (below_al HLX9.out (.cells #[] 39))⟩ (fun hHeld => ?_)
      clear hK K
      (try simp only [Act.put, List.getElem_toArray, List.getElem_cons_zero, List.getElem_cons_succ, Array.getInternal_eq_getElem, List.setIfInBounds_toArray, List.set_cons_zero, List.set_cons_succ])
      obtain ⟨X3, hX3⟩ : ∃ W, W = X9.alloc (.cells #[] 39) := ⟨_, rfl⟩
      have HLX3 := Lib.hid (show Below W5.heap.size W5 X3 from by rw [hX3]; exact below_al HLX9.out (.cells #[] 39))
      have HO := Lib.hid (show X3.ownsRow W5.heap.size 39 5 (.slice (some ⟨X9.heap.size, 0, none⟩) 0 0) 0 [] from by rw [hX3]; exact World.ownsRow_lit (base := W5.heap.size) (e := 39) (size := 5) X9 #[] 0 HLX9.out.size (by decide) rfl)
      have HS3 := Lib.hid (show X3.heap.size = X9.heap.size + 1 from by rw [hX3]; simp)
      replace HF := Lib.hid (fun (j : Nat) (u : Value) (h : (lnsCs [fen])[j]? = some u) => (show X3.cell? ⟨X0.heap.size, j, none⟩ = some u from by rw [hX3]; exact kc (below_al (Below.refl _ _) (.cells #[] 39)) (HF.out j u h)))
      rw [← hX3] at hHeld ⊢
      clear hX3
      refine wpAnyH_ready (rs := [7]) (by kernel_rfl) (by simp) ?_
      refine AllReadyH.cons rfl (fun K hK => ?_) AllReadyH.nil
      refine step_append_src (by rfl) _ _ _ (by rfl) W5.heap.size 39 i0 (.agg #[.int .i64 0, .string ⟨#[]⟩, .string ⟨#[]⟩, .string ⟨#[]⟩, .int .i64 0]) 5 64 Tryz.underlying35 hi0 hz0 hz1 hz2 (by rfl) (by decide) _ 0 [] (by rfl) HO.out A3 k c3 (lnsCs (ls.take k)) (by rfl) (by rw [lnsCs_len, hl0]) HNA.out (ahead_cells (c := c3) hkl HE3.out (chain hB5 HLX3.out)) (lnsCs_one _) (by unfold maxLen; omega) (by omega) HLX3.out.size (fun v1 w7 hown7 hg7 => ?_)
      simp only [Nat.zero_add, List.nil_append] at hown7
      have HLw7 := Lib.hid (below_append HLX3.out HO.out (Nat.le_refl _) HLX3.out.size hg7)
      replace HF := Lib.hid (fun (j : Nat) (u : Value) (h : (lnsCs [fen])[j]? = some u) => hg7.cell (HF.out j u h) (show some X0.heap.size ≠ some X9.heap.size from fun e => by injection e with e; have h3 := HS3.out; have h9 := HS9.out; omega))
      replace HO := Lib.hid hown7
      clear hown7 hg7
      refine hK.out _ _ ⟨kc HLw7.out p2, chain hB5 HLw7.out⟩ (fun hHeld => ?_)
      clear hK K
      (try simp only [Act.put, List.getElem_toArray, List.getElem_cons_zero, List.getElem_cons_succ, Array.getInternal_eq_getElem, List.setIfInBounds_toArray, List.set_cons_zero, List.set_cons_succ])
      refine wpAnyH_ready (rs := [10]) (by kernel_rfl) (by simp) ?_
      refine AllReadyH.cons rfl (fun K hK => ?_) AllReadyH.nil
      refine step_append_src (by rfl) _ _ _ (by rfl) W5.heap.size 39 i0 (.agg #[.int .i64 0, .string ⟨#[]⟩, .string ⟨#[]⟩, .string ⟨#[]⟩, .int .i64 0]) 5 64 Tryz.underlying35 hi0 hz0 hz1 hz2 (by rfl) (by decide) _ k (lnsCs (ls.take k)) (by rfl) HO.out (some ⟨X0.heap.size, 0, none⟩) 1 1 (lnsCs [fen]) (by rfl) (by rfl) (fun c => (by cases c)) (fun ad e j u h => by injection e with e; rw [← e, Addr.add_lit, Nat.zero_add]; exact HF.out j u h) (lnsCs_one _) (by unfold maxLen; omega) (by omega) HLw7.out.size (fun v2 w10 hown10 hg10 => ?_)
      have HLw10 := Lib.hid (below_append HLw7.out HO.out (Nat.le_refl _) HLw7.out.size hg10)
      replace HO := Lib.hid hown10
      clear hown10 hg10 HF
      refine hK.out _ _ ⟨kc HLw10.out p2, chain hB5 HLw10.out⟩ (fun hHeld => ?_)
      clear hK K
      (try simp only [Act.put, List.getElem_toArray, List.getElem_cons_zero, List.getElem_cons_succ, Array.getInternal_eq_getElem, List.setIfInBounds_toArray, List.set_cons_zero, List.set_cons_succ])
      refine wpAnyH_ready (rs := [14]) (by kernel_rfl) (by simp) ?_
      refine AllReadyH.cons rfl (fun K hK => ?_) AllReadyH.nil
      refine step_append_src (by rfl) _ _ _ (by rfl) W5.heap.size 39 i0 (.agg #[.int .i64 0, .string ⟨#[]⟩, .string ⟨#[]⟩, .string ⟨#[]⟩, .int .i64 0]) 5 64 Tryz.underlying35 hi0 hz0 hz1 hz2 (by rfl) (by decide) _ (k + 1) (lnsCs (ls.take k) ++ lnsCs [fen]) (by rfl) HO.out AD (ls.length - k) (c3 - k) (lnsCs (ls.drop k)) (by rfl) (by rw [lnsCs_len, List.length_drop]) HNB.out (HBC.out _ (chain hB5 HLw10.out)) (lnsCs_one _) (by unfold maxLen; omega) (by omega) HLw10.out.size (fun v2 w14 hown14 hg14 => ?_)
      obtain ⟨N, hN⟩ : ∃ n, n = k + 1 + (ls.length - k) := ⟨_, rfl⟩
      rw [← hN, ← lnsCs_app, ← lnsCs_app, List.append_assoc, List.singleton_append] at hown14
      have HN := Lib.hid hN
      clear hN
      have HL14 := Lib.hid (below_append HLw10.out HO.out (Nat.le_refl _) HLw10.out.size hg14)
      obtain ⟨A8, c8, rfl⟩ := own_slice hown14
      have HO8 := Lib.hid hown14
      have hB8 := chain hB5 HL14.out
      have HT8 := Lib.hid (own_below HO5.out HL14.out)
      obtain ⟨old, hold⟩ : ∃ o, vs[t]? = some o := ⟨_, List.getElem?_eq_getElem (by omega)⟩
      have c9 : w14.cell? ⟨gT, t, none⟩ = some old := by rw [HT8.out.cellAt t (by omega)]; exact hold
      have f9 := HT8.out.frozenAt t
      clear hown14 hg14 HO hold
      refine hK.out _ _ ⟨kc HL14.out p2, hB8⟩ (fun hHeld => ?_)
      clear hK K
      (try simp only [Act.put, List.getElem_toArray, List.getElem_cons_zero, List.getElem_cons_succ, Array.getInternal_eq_getElem, List.setIfInBounds_toArray, List.set_cons_zero, List.set_cons_succ])
      refine wpAnyH_take (i := 15) (v := ?_) rfl (by kernel_rfl) (by kernel_rfl) (by kernel_rfl) (fun _ _ _ h => h) (Or.inl ⟨by rfl, ?_⟩) (by assumption) ?_
      rotate_left
      · intro w hSw; (try dsimp only at hSw); go_simp; (try with_reducible rfl)
      (try simp only [Act.put, List.getElem_toArray, List.getElem_cons_zero, List.getElem_cons_succ, Array.getInternal_eq_getElem, List.setIfInBounds_toArray, List.set_cons_zero, List.set_cons_succ])
      refine wpAnyH_take (i := 16) (v := ?_) rfl (by kernel_rfl) (by kernel_rfl) (by kernel_rfl) (fun _ _ _ h => h) (Or.inl ⟨by rfl, ?_⟩) (by assumption) ?_
      rotate_left
      · intro w hSw; (try dsimp only at hSw); go_simp; (try with_reducible rfl)
      (try simp only [Act.put, List.getElem_toArray, List.getElem_cons_zero, List.getElem_cons_succ, Array.getInternal_eq_getElem, List.setIfInBounds_toArray, List.set_cons_zero, List.set_cons_succ])
      refine wpAnyH_ready (rs := [17]) (by kernel_rfl) (by simp) ?_
      refine AllReadyH.cons rfl (fun K hK => ?_) AllReadyH.nil
      go_simp
      refine hK.out _ _ ⟨set_oth (.inl (Ne.symm hne5)) (kc HL14.out p2), hB8.setCell (p := ⟨gT, t, none⟩) hgl _⟩ (fun hHeld => ?_)
      clear hK K
      (try simp only [Act.put, List.getElem_toArray, List.getElem_cons_zero, List.getElem_cons_succ, Array.getInternal_eq_getElem, List.setIfInBounds_toArray, List.set_cons_zero, List.set_cons_succ])
      refine wpAnyH_done (by kernel_rfl) ?_ _
      have hNl : (ls.take k ++ fen :: ls.drop k).length = N := by rw [List.length_append, List.length_cons, List.length_drop, hl0]; have := HN.out; omega
      have HB9 := Lib.hid (hB8.setCell (p := ⟨gT, t, none⟩) hgl (.slice A8 N c8))
      have HFL := Lib.hid (fl_set HB9.out HM.out hvl HVS.out (HT8.out.stored t (.slice A8 N c8)).1 htl (lns_of_own (ls := ls.take k ++ fen :: ls.drop k) (by rw [hNl]; exact own_set HO8.out (fun k hk => by have := (HO8.out.lt k hk).1; omega)) (Nat.le_refl _)))
      have HG9 := Lib.hid (box_set (i := t) (u := .slice A8 N c8) (HBX5.out.below HL14.out) (Ne.symm hne5))
      have HF9 := Lib.hid (box_set (i := t) (u := .slice A8 N c8) (HBF5.out.below HL14.out) (show gT ≠ w.heap.size by omega))
      clear p0 p1 p2 p3 p4 c9 f9 HT8 HO8 HO5 HBX5 hHeld
      go_wp2_with fail
      go_meet
      exact ⟨HB9.out, HG9.out, HF9.out, HFL.out⟩
  case rest =>
    obtain ⟨hB9, hx9, hf9, hF9⟩ := hcut
    clear HO5 HBX5 HBF5 p0 p1 p2 p3 p4 HNA HNB HBC hAD
    go_upto_region 10 with fail
    go_cut [12] (fun s12 wx => s12 = .bool (sideB ls k) ∧ wx = wc)
    case first =>
      by_cases hk0 : k = 0
      · have q0 : decide ((0 : Int) < (k : Int)) = false := decide_eq_false (by omega)
        have q00 : decide (0 < k) = false := decide_eq_false (by omega)
        have hfen : fenB ls k = false := by rw [hk0]; rfl
        clear hk0
        by_cases hkx : k < ls.length
        · obtain ⟨b3, f3, rfl, hb3', hc3⟩ := HE3.out (by omega)
          have hs := sideB_in hkx
          obtain ⟨z0, -⟩ := (hc3 k hkx).below hB9 hb3'
          obtain ⟨x, hx⟩ : ∃ x, x = ls[k] := ⟨_, rfl⟩
          rw [← hx] at z0 hs
          rw [hfen] at hs
          have q1 : decide (((k : Nat) : Int) < (ls.length : Int)) = true := decide_eq_true (by omega)
          clear hx hc3
          cases h6 : (x.op == 6)
          · rw [h6] at hs
            have E := Lib.hid hs
            clear hs hfen
            go_wp2_with fail
            go_meet
            exact ⟨by rw [E.out]; rfl, rfl⟩
          · rw [h6] at hs
            have E := Lib.hid hs
            clear hs hfen
            go_wp2_with fail
            go_meet
            exact ⟨by rw [E.out]; rfl, rfl⟩
        · have hs := sideB_end hkx
          rw [hfen] at hs
          have q1 : decide (((k : Nat) : Int) < (ls.length : Int)) = false := decide_eq_false (by omega)
          have E := Lib.hid hs
          clear hs hfen
          go_wp2_with fail
          go_meet
          exact ⟨by rw [E.out], rfl⟩
      · obtain ⟨n, rfl⟩ : ∃ n, k = n + 1 := ⟨k - 1, by omega⟩
        have g0 : decide ((0 : Int) < ((n + 1 : Nat) : Int)) = true := decide_eq_true (by omega)
        have g1 : (0 : Int) ≤ (n : Int) + 1 := by omega
        have g2 : (n : Int) ≤ 1000000 := by omega
        obtain ⟨b4, f4, rfl, hb4, hc4⟩ := HE3.out (by omega)
        obtain ⟨p0, -⟩ := (hc4 n (by omega)).below hB9 hb4
        have hfen := fenB_in (ls := ls) (n := n) (by omega)
        obtain ⟨y, hy⟩ : ∃ y, y = ls[n]'(by omega) := ⟨_, rfl⟩
        rw [← hy] at p0 hfen
        have HC4 := Lib.hid hc4
        clear hy hc4
        cases hy6 : (y.op == 6)
        · rw [hy6] at hfen
          by_cases hkx : (n + 1) < ls.length
          · have hs := sideB_in hkx
            obtain ⟨z0, -⟩ := (HC4.out (n + 1) hkx).below hB9 hb4
            obtain ⟨x, hx⟩ : ∃ x, x = ls[(n + 1)] := ⟨_, rfl⟩
            rw [← hx] at z0 hs
            rw [hfen] at hs
            have q1 : decide ((((n + 1) : Nat) : Int) < (ls.length : Int)) = true := decide_eq_true (by omega)
            clear hx 
            cases h6 : (x.op == 6)
            · rw [h6] at hs
              have E := Lib.hid hs
              clear hs hfen
              go_wp2_with fail
              go_meet
              exact ⟨by rw [E.out]; rfl, rfl⟩
            · rw [h6] at hs
              have E := Lib.hid hs
              clear hs hfen
              go_wp2_with fail
              go_meet
              exact ⟨by rw [E.out]; rfl, rfl⟩
          · have hs := sideB_end hkx
            rw [hfen] at hs
            have q1 : decide ((((n + 1) : Nat) : Int) < (ls.length : Int)) = false := decide_eq_false (by omega)
            have E := Lib.hid hs
            clear hs hfen
            go_wp2_with fail
            go_meet
            exact ⟨by rw [E.out], rfl⟩
        · rw [hy6] at hfen
          have E := Lib.hid (show sideB ls (n + 1) = true from by unfold sideB; rw [hfen]; rfl)
          clear hfen
          go_wp2_with fail
          go_meet
          exact ⟨by rw [E.out], rfl⟩
    case rest =>
    rename_i wc2
    obtain ⟨rfl, rfl⟩ := hcut
    have okG : FlOk (setT F t (ls.take k ++ fen :: ls.drop k)) := setT_ok HOK.out ⟨by rw [List.length_append, List.length_cons, List.length_drop, List.length_take]; omega, fun l hl => by
      rcases List.mem_append.1 hl with h | h
      · have := HLS.out l (List.mem_of_mem_take h); omega
      · rcases List.mem_cons.1 h with h | h
        · subst h; exact ⟨by decide, by decide, by decide⟩
        · have := HLS.out l (List.mem_of_mem_drop h); omega⟩
    obtain ⟨hS1, hS2⟩ := HFE.out k hkl
    obtain ⟨G, hG⟩ : ∃ G, G = setT F t (ls.take k ++ fen :: ls.drop k) := ⟨_, rfl⟩
    rw [← hG] at okG hS1 hS2 hF9
    have HC9 := Lib.hid (HC1.out _ _ G hB9 hF9 okG)
    have hside : ∀ s, sideB ls k = s → VM.right G = !s ∧ (s = true → (chk G).2.2 = 23) ∧ (s = false → locsR G = locsR F) := by
      intro s hs
      cases s
      · obtain ⟨h1, h2⟩ := hS2 (sideB_false hs)
        exact ⟨h1, fun c => (by cases c), fun _ => by unfold locsR; rw [h1, HRT.out, h2]⟩
      · obtain ⟨h1, h2⟩ := hS1 (sideB_true hs)
        exact ⟨h1, fun _ => h2, fun c => (by cases c)⟩
    obtain ⟨sd, hsd⟩ : ∃ s, s = sideB ls k := ⟨_, rfl⟩
    obtain ⟨hr1, hr2, hr3⟩ := hside sd hsd.symm
    have HOG := Lib.hid okG
    rw [← hsd]
    obtain ⟨ck, hck⟩ : ∃ c, c = chk G := ⟨_, rfl⟩
    rw [← hck] at HC9 hr2
    obtain ⟨ga, gi, gc⟩ := ck
    obtain ⟨g0, g1, g2, g3, g4⟩ := hx9
    obtain ⟨t0, t1, t2, t3, t4⟩ := hf9
    have HXG := Lib.hid (show FlBox wc gb ⟨F.name.toArray⟩ (.slice A0 F.init.length c0) (.slice (some ⟨gT, 0, none⟩) F.ths.length capT) (.slice A1 F.cond.length c1) F.all from ⟨g0, g1, g2, g3, g4⟩)
    have HXF := Lib.hid (show FlBox wc w.heap.size ⟨F.name.toArray⟩ (.slice A0 F.init.length c0) (.slice (some ⟨b1, f1, none⟩) F.ths.length c2) (.slice A1 F.cond.length c1) F.all from ⟨t0, t1, t2, t3, t4⟩)
    have HFL := Lib.hid hF9
    have HR1' := Lib.hid hr1
    have HR2' := Lib.hid hr2
    have HR3' := Lib.hid hr3
    clear hsd hck hG hside hS1 hS2 okG hF9 hr1 hr2 hr3 HFE
    go_wp2_with fail
    refine HC9.out.mono ?_
    rintro e wz ⟨rfl, hbb⟩
    have hBz := chain hB9 hbb
    clear t0 t1 t2 t3 t4 g0 g1 g2 g3 g4 HC9
    obtain ⟨g0, g1, g2, g3, g4⟩ := HXG.out.below hbb
    obtain ⟨t0, t1, t2, t3, t4⟩ := HXF.out.below hbb
    have HFLz := Lib.hid ((HFL.out.below hbb).more hbb.size)
    have HRZ := Lib.hid (fun W (hW : Below wz.heap.size wz W) => (HR1.out W _ G (chain hBz hW) ((HFLz.out.below hW).more hW.size) HOG.out))
    have HLZ := Lib.hid (fun W (hW : Below wz.heap.size wz W) => (HL1.out W _ G (chain hBz hW) ((HFLz.out.below hW).more hW.size) HOG.out))
    rw [HR1'.out] at HRZ
    clear hbb HXG HXF HFL hB9
    cases sd
    · rw [HR3'.out rfl] at HLZ
      go_wp2
      refine wp_region_held_drew (S := (fun w' => (w'.cell? ⟨gb, 0, none⟩ = some (.string ⟨F.name.toArray⟩) ∧ w'.cell? ⟨gb, 1, none⟩ = some (.slice A0 F.init.length c0) ∧ w'.cell? ⟨gb, 2, none⟩ = some (.slice (some ⟨gT, 0, none⟩) F.ths.length capT) ∧ w'.cell? ⟨gb, 3, none⟩ = some (.bool F.all) ∧ w'.cell? ⟨gb, 4, none⟩ = some (.slice A1 F.cond.length c1)) ∧ (w'.cell? ⟨w.heap.size, 0, none⟩ = some (.string ⟨F.name.toArray⟩) ∧ w'.cell? ⟨w.heap.size, 1, none⟩ = some (.slice A0 F.init.length c0) ∧ w'.cell? ⟨w.heap.size, 2, none⟩ = some (.slice (some ⟨b1, f1, none⟩) F.ths.length c2) ∧ w'.cell? ⟨w.heap.size, 3, none⟩ = some (.bool F.all) ∧ w'.cell? ⟨w.heap.size, 4, none⟩ = some (.slice A1 F.cond.length c1)) ∧ Below wz.heap.size wz w')) (by kernel_rfl) ⟨⟨g0, g1, g2, g3, g4⟩, ⟨t0, t1, t2, t3, t4⟩, below_drewN (Below.refl _ _) 1⟩ (fun hHeld => ?_)
      refine wpAnyH_take (i := 0) (v := ?_) rfl (by kernel_rfl) (by kernel_rfl) (by kernel_rfl) (fun _ _ _ h => h) (Or.inl ⟨by rfl, ?_⟩) (by assumption) ?_
      rotate_left
      · intro w hSw; (try dsimp only at hSw); go_simp; (try with_reducible rfl)
      (try simp only [Act.put, List.getElem_toArray, List.getElem_cons_zero, List.getElem_cons_succ, Array.getInternal_eq_getElem, List.setIfInBounds_toArray, List.set_cons_zero, List.set_cons_succ])
      refine wpAnyH_take (i := 1) (v := ?_) rfl (by kernel_rfl) (by kernel_rfl) (by kernel_rfl) (fun _ _ _ h => h) (Or.inl ⟨by rfl, ?_⟩) (by assumption) ?_
      rotate_left
      · intro w hSw; (try dsimp only at hSw); go_simp; (try with_reducible rfl)
      (try simp only [Act.put, List.getElem_toArray, List.getElem_cons_zero, List.getElem_cons_succ, Array.getInternal_eq_getElem, List.setIfInBounds_toArray, List.set_cons_zero, List.set_cons_succ])
      refine wpAnyH_take (i := 2) (v := ?_) rfl (by kernel_rfl) (by kernel_rfl) (by kernel_rfl) (fun _ _ _ h => h) (Or.inl ⟨by rfl, ?_⟩) (by assumption) ?_
      rotate_left
      · intro w hSw; (try dsimp only at hSw); go_simp; (try with_reducible rfl)
      (try simp only [Act.put, List.getElem_toArray, List.getElem_cons_zero, List.getElem_cons_succ, Array.getInternal_eq_getElem, List.setIfInBounds_toArray, List.set_cons_zero, List.set_cons_succ])
      refine wpAnyH_take (i := 4) (v := ?_) rfl (by kernel_rfl) (by kernel_rfl) (by kernel_rfl) (fun _ _ _ h => h) (Or.inl ⟨by rfl, ?_⟩) (by assumption) ?_
      rotate_left
      · intro w hSw; (try dsimp only at hSw); go_simp; (try with_reducible rfl)
      (try simp only [Act.put, List.getElem_toArray, List.getElem_cons_zero, List.getElem_cons_succ, Array.getInternal_eq_getElem, List.setIfInBounds_toArray, List.set_cons_zero, List.set_cons_succ])
      refine wpAnyH_take (i := 5) (v := ?_) rfl (by kernel_rfl) (by kernel_rfl) (by kernel_rfl) (fun _ _ _ h => h) (Or.inl ⟨by rfl, ?_⟩) (by assumption) ?_
      rotate_left
      · intro w hSw; (try dsimp only at hSw); go_simp; (try with_reducible rfl)
      (try simp only [Act.put, List.getElem_toArray, List.getElem_cons_zero, List.getElem_cons_succ, Array.getInternal_eq_getElem, List.setIfInBounds_toArray, List.set_cons_zero, List.set_cons_succ])
      refine wpAnyH_ready (rs := [3]) (by kernel_rfl) (by simp) ?_
      refine AllReadyH.cons rfl (fun K hK => ?_) AllReadyH.nil
      go_simp
      go_at_call 13
      refine (HRZ.out _ hHeld.2.2).mono ?_
      rintro e wa ⟨rfl, hba⟩
      refine hK.out _ _ (keep11 hba hHeld) (fun hHeld => ?_)
      clear hK K
      (try simp only [Act.put, List.getElem_toArray, List.getElem_cons_zero, List.getElem_cons_succ, Array.getInternal_eq_getElem, List.setIfInBounds_toArray, List.set_cons_zero, List.set_cons_succ])
      refine wpAnyH_take (i := 6) (v := ?_) rfl (by kernel_rfl) (by kernel_rfl) (by kernel_rfl) (fun _ _ _ h => h) (Or.inl ⟨by rfl, ?_⟩) (by assumption) ?_
      rotate_left
      · intro w hSw; (try dsimp only at hSw); go_simp; (try with_reducible rfl)
      (try simp only [Act.put, List.getElem_toArray, List.getElem_cons_zero, List.getElem_cons_succ, Array.getInternal_eq_getElem, List.setIfInBounds_toArray, List.set_cons_zero, List.set_cons_succ])
      refine wpAnyH_take (i := 7) (v := ?_) rfl (by kernel_rfl) (by kernel_rfl) (by kernel_rfl) (fun _ _ _ h => h) (Or.inl ⟨by rfl, ?_⟩) (by assumption) ?_
      rotate_left
      · intro w hSw; (try dsimp only at hSw); go_simp; (try with_reducible rfl)
      (try simp only [Act.put, List.getElem_toArray, List.getElem_cons_zero, List.getElem_cons_succ, Array.getInternal_eq_getElem, List.setIfInBounds_toArray, List.set_cons_zero, List.set_cons_succ])
      refine wpAnyH_take (i := 8) (v := ?_) rfl (by kernel_rfl) (by kernel_rfl) (by kernel_rfl) (fun _ _ _ h => h) (Or.inl ⟨by rfl, ?_⟩) (by assumption) ?_
      rotate_left
      · intro w hSw; (try dsimp only at hSw); go_simp; (try with_reducible rfl)
      (try simp only [Act.put, List.getElem_toArray, List.getElem_cons_zero, List.getElem_cons_succ, Array.getInternal_eq_getElem, List.setIfInBounds_toArray, List.set_cons_zero, List.set_cons_succ])
      refine wpAnyH_take (i := 9) (v := ?_) rfl (by kernel_rfl) (by kernel_rfl) (by kernel_rfl) (fun _ _ _ h => h) (Or.inl ⟨by rfl, ?_⟩) (by assumption) ?_
      rotate_left
      · intro w hSw; (try dsimp only at hSw); go_simp; (try with_reducible rfl)
      (try simp only [Act.put, List.getElem_toArray, List.getElem_cons_zero, List.getElem_cons_succ, Array.getInternal_eq_getElem, List.setIfInBounds_toArray, List.set_cons_zero, List.set_cons_succ])
      refine wpAnyH_take (i := 10) (v := ?_) rfl (by kernel_rfl) (by kernel_rfl) (by kernel_rfl) (fun _ _ _ h => h) (Or.inl ⟨by rfl, ?_⟩) (by assumption) ?_
      rotate_left
      · intro w hSw; (try dsimp only at hSw); go_simp; (try with_reducible rfl)
      (try simp only [Act.put, List.getElem_toArray, List.getElem_cons_zero, List.getElem_cons_succ, Array.getInternal_eq_getElem, List.setIfInBounds_toArray, List.set_cons_zero, List.set_cons_succ])
      refine wpAnyH_take (i := 11) (v := ?_) rfl (by kernel_rfl) (by kernel_rfl) (by kernel_rfl) (fun _ _ _ h => h) (Or.inl ⟨by rfl, ?_⟩) (by assumption) ?_
      rotate_left
      · intro w hSw; (try dsimp only at hSw); go_simp; (try with_reducible rfl)
      (try simp only [Act.put, List.getElem_toArray, List.getElem_cons_zero, List.getElem_cons_succ, Array.getInternal_eq_getElem, List.setIfInBounds_toArray, List.set_cons_zero, List.set_cons_succ])
      refine wpAnyH_take (i := 12) (v := undef) rfl (by kernel_rfl) (by kernel_rfl) (by kernel_rfl) (fun _ _ _ h => h) (Or.inr ⟨by rfl, rfl⟩) (by assumption) ?_
      (try simp only [Act.put, List.getElem_toArray, List.getElem_cons_zero, List.getElem_cons_succ, Array.getInternal_eq_getElem, List.setIfInBounds_toArray, List.set_cons_zero, List.set_cons_succ])
      refine wpAnyH_take (i := 13) (v := undef) rfl (by kernel_rfl) (by kernel_rfl) (by kernel_rfl) (fun _ _ _ h => h) (Or.inr ⟨by rfl, rfl⟩) (by assumption) ?_
      (try simp only [Act.put, List.getElem_toArray, List.getElem_cons_zero, List.getElem_cons_succ, Array.getInternal_eq_getElem, List.setIfInBounds_toArray, List.set_cons_zero, List.set_cons_succ])
      refine wpAnyH_take (i := 14) (v := ?_) rfl (by kernel_rfl) (by kernel_rfl) (by kernel_rfl) (fun _ _ _ h => h) (Or.inl ⟨by rfl, ?_⟩) (by assumption) ?_
      rotate_left
      · intro w hSw; (try dsimp only at hSw); go_simp; (try with_reducible rfl)
      (try simp only [Act.put, List.getElem_toArray, List.getElem_cons_zero, List.getElem_cons_succ, Array.getInternal_eq_getElem, List.setIfInBounds_toArray, List.set_cons_zero, List.set_cons_succ])
      refine wpAnyH_take (i := 15) (v := ?_) rfl (by kernel_rfl) (by kernel_rfl) (by kernel_rfl) (fun _ _ _ h => h) (Or.inl ⟨by rfl, ?_⟩) (by assumption) ?_
      rotate_left
      · intro w hSw; (try dsimp only at hSw); go_simp; (try with_reducible rfl)
      (try simp only [Act.put, List.getElem_toArray, List.getElem_cons_zero, List.getElem_cons_succ, Array.getInternal_eq_getElem, List.setIfInBounds_toArray, List.set_cons_zero, List.set_cons_succ])
      refine wpAnyH_take (i := 16) (v := ?_) rfl (by kernel_rfl) (by kernel_rfl) (by kernel_rfl) (fun _ _ _ h => h) (Or.inl ⟨by rfl, ?_⟩) (by assumption) ?_
      rotate_left
      · intro w hSw; (try dsimp only at hSw); go_simp; (try with_reducible rfl)
      (try simp only [Act.put, List.getElem_toArray, List.getElem_cons_zero, List.getElem_cons_succ, Array.getInternal_eq_getElem, List.setIfInBounds_toArray, List.set_cons_zero, List.set_cons_succ])
      refine wpAnyH_take (i := 17) (v := ?_) rfl (by kernel_rfl) (by kernel_rfl) (by kernel_rfl) (fun _ _ _ h => h) (Or.inl ⟨by rfl, ?_⟩) (by assumption) ?_
      rotate_left
      · intro w hSw; (try dsimp only at hSw); go_simp; (try with_reducible rfl)
      (try simp only [Act.put, List.getElem_toArray, List.getElem_cons_zero, List.getElem_cons_succ, Array.getInternal_eq_getElem, List.setIfInBounds_toArray, List.set_cons_zero, List.set_cons_succ])
      refine wpAnyH_take (i := 18) (v := ?_) rfl (by kernel_rfl) (by kernel_rfl) (by kernel_rfl) (fun _ _ _ h => h) (Or.inl ⟨by rfl, ?_⟩) (by assumption) ?_
      rotate_left
      · intro w hSw; (try dsimp only at hSw); go_simp; (try with_reducible rfl)
      (try simp only [Act.put, List.getElem_toArray, List.getElem_cons_zero, List.getElem_cons_succ, Array.getInternal_eq_getElem, List.setIfInBounds_toArray, List.set_cons_zero, List.set_cons_succ])
      refine wpAnyH_take (i := 19) (v := ?_) rfl (by kernel_rfl) (by kernel_rfl) (by kernel_rfl) (fun _ _ _ h => h) (Or.inl ⟨by rfl, ?_⟩) (by assumption) ?_
      rotate_left
      · intro w hSw; (try dsimp only at hSw); go_simp; (try with_reducible rfl)
      (try simp only [Act.put, List.getElem_toArray, List.getElem_cons_zero, List.getElem_cons_succ, Array.getInternal_eq_getElem, List.setIfInBounds_toArray, List.set_cons_zero, List.set_cons_succ])
      refine wpAnyH_take (i := 21) (v := ?_) rfl (by kernel_rfl) (by kernel_rfl) (by kernel_rfl) (fun _ _ _ h => h) (Or.inl ⟨by rfl, ?_⟩) (by assumption) ?_
      rotate_left
      · intro w hSw; (try dsimp only at hSw); go_simp; (try with_reducible rfl)
      (try simp only [Act.put, List.getElem_toArray, List.getElem_cons_zero, List.getElem_cons_succ, Array.getInternal_eq_getElem, List.setIfInBounds_toArray, List.set_cons_zero, List.set_cons_succ])
      refine wpAnyH_ready (rs := [20]) (by kernel_rfl) (by simp) ?_
      refine AllReadyH.cons rfl (fun K hK => ?_) AllReadyH.nil
      go_simp
      go_at_call 16
      refine (HLZ.out _ hHeld.2.2).mono ?_
      rintro e wd ⟨va, rfl, howna, hbc⟩
      refine hK.out _ _ (keep11 hbc hHeld) (fun hHeld => ?_)
      clear hK K
      (try simp only [Act.put, List.getElem_toArray, List.getElem_cons_zero, List.getElem_cons_succ, Array.getInternal_eq_getElem, List.setIfInBounds_toArray, List.set_cons_zero, List.set_cons_succ])
      refine wpAnyH_ready (rs := [22]) (by kernel_rfl) (by simp) ?_
      refine AllReadyH.cons rfl (fun K hK => ?_) AllReadyH.nil
      go_simp
      go_at_call 16
      refine (HVL.out _ (chain hBz hHeld.2.2)).mono ?_
      rintro e we ⟨vb, rfl, hownb, hbd⟩
      refine hK.out _ _ (keep11 hbd hHeld) (fun hHeld => ?_)
      clear hK K
      (try simp only [Act.put, List.getElem_toArray, List.getElem_cons_zero, List.getElem_cons_succ, Array.getInternal_eq_getElem, List.setIfInBounds_toArray, List.set_cons_zero, List.set_cons_succ])
      refine wpAnyH_ready (rs := [23]) (by kernel_rfl) (by simp) ?_
      refine AllReadyH.cons rfl (fun K hK => ?_) AllReadyH.nil
      go_simp
      go_at_call 15
      refine (same_yes we.heap.size va vb (locsR F) we (strs_up2 (strs_own howna) (Nat.le_refl _) hbd) (strs_own hownb)).mono ?_
      rintro e wf ⟨rfl, nd, rfl⟩
      refine hK.out _ _ (keep11 (below_drewN (Below.refl _ _) nd) hHeld) (fun hHeld => ?_)
      clear hK K
      (try simp only [Act.put, List.getElem_toArray, List.getElem_cons_zero, List.getElem_cons_succ, Array.getInternal_eq_getElem, List.setIfInBounds_toArray, List.set_cons_zero, List.set_cons_succ])
      refine wpAnyH_take (i := 24) (v := ?_) rfl (by kernel_rfl) (by kernel_rfl) (by kernel_rfl) (fun _ _ _ h => h) (Or.inl ⟨by rfl, ?_⟩) (by assumption) ?_
      rotate_left
      · intro w hSw; (try dsimp only at hSw); go_simp; (try with_reducible rfl)
      (try simp only [Act.put, List.getElem_toArray, List.getElem_cons_zero, List.getElem_cons_succ, Array.getInternal_eq_getElem, List.setIfInBounds_toArray, List.set_cons_zero, List.set_cons_succ])
      refine wpAnyH_take (i := 25) (v := ?_) rfl (by kernel_rfl) (by kernel_rfl) (by kernel_rfl) (fun _ _ _ h => h) (Or.inl ⟨by rfl, ?_⟩) (by assumption) ?_
      rotate_left
      · intro w hSw; (try dsimp only at hSw); go_simp; (try with_reducible rfl)
      (try simp only [Act.put, List.getElem_toArray, List.getElem_cons_zero, List.getElem_cons_succ, Array.getInternal_eq_getElem, List.setIfInBounds_toArray, List.set_cons_zero, List.set_cons_succ])
      refine wpAnyH_ready (rs := [26]) (by kernel_rfl) (by simp) ?_
      refine AllReadyH.cons rfl (fun K hK => ?_) AllReadyH.nil
      go_simp
      refine hK.out _ _ hHeld (fun hHeld => ?_)
      clear hK K
      (try simp only [Act.put, List.getElem_toArray, List.getElem_cons_zero, List.getElem_cons_succ, Array.getInternal_eq_getElem, List.setIfInBounds_toArray, List.set_cons_zero, List.set_cons_succ])
      refine wpAnyH_done (by kernel_rfl) ?_ _
      go_wp2
      go_ret
      exact ⟨rfl, chain hBz hHeld.2.2⟩
    · have hgc : gc = 23 := HR2'.out rfl
      subst hgc
      go_wp2
      refine wp_region_held_drew (S := (fun w' => (w'.cell? ⟨gb, 0, none⟩ = some (.string ⟨F.name.toArray⟩) ∧ w'.cell? ⟨gb, 1, none⟩ = some (.slice A0 F.init.length c0) ∧ w'.cell? ⟨gb, 2, none⟩ = some (.slice (some ⟨gT, 0, none⟩) F.ths.length capT) ∧ w'.cell? ⟨gb, 3, none⟩ = some (.bool F.all) ∧ w'.cell? ⟨gb, 4, none⟩ = some (.slice A1 F.cond.length c1)) ∧ (w'.cell? ⟨w.heap.size, 0, none⟩ = some (.string ⟨F.name.toArray⟩) ∧ w'.cell? ⟨w.heap.size, 1, none⟩ = some (.slice A0 F.init.length c0) ∧ w'.cell? ⟨w.heap.size, 2, none⟩ = some (.slice (some ⟨b1, f1, none⟩) F.ths.length c2) ∧ w'.cell? ⟨w.heap.size, 3, none⟩ = some (.bool F.all) ∧ w'.cell? ⟨w.heap.size, 4, none⟩ = some (.slice A1 F.cond.length c1)) ∧ Below wz.heap.size wz w')) (by kernel_rfl) ⟨⟨g0, g1, g2, g3, g4⟩, ⟨t0, t1, t2, t3, t4⟩, below_drewN (Below.refl _ _) 1⟩ (fun hHeld => ?_)
      refine wpAnyH_take (i := 0) (v := ?_) rfl (by kernel_rfl) (by kernel_rfl) (by kernel_rfl) (fun _ _ _ h => h) (Or.inl ⟨by rfl, ?_⟩) (by assumption) ?_
      rotate_left
      · intro w hSw; (try dsimp only at hSw); go_simp; (try with_reducible rfl)
      (try simp only [Act.put, List.getElem_toArray, List.getElem_cons_zero, List.getElem_cons_succ, Array.getInternal_eq_getElem, List.setIfInBounds_toArray, List.set_cons_zero, List.set_cons_succ])
      refine wpAnyH_take (i := 1) (v := ?_) rfl (by kernel_rfl) (by kernel_rfl) (by kernel_rfl) (fun _ _ _ h => h) (Or.inl ⟨by rfl, ?_⟩) (by assumption) ?_
      rotate_left
      · intro w hSw; (try dsimp only at hSw); go_simp; (try with_reducible rfl)
      (try simp only [Act.put, List.getElem_toArray, List.getElem_cons_zero, List.getElem_cons_succ, Array.getInternal_eq_getElem, List.setIfInBounds_toArray, List.set_cons_zero, List.set_cons_succ])
      refine wpAnyH_take (i := 2) (v := ?_) rfl (by kernel_rfl) (by kernel_rfl) (by kernel_rfl) (fun _ _ _ h => h) (Or.inl ⟨by rfl, ?_⟩) (by assumption) ?_
      rotate_left
      · intro w hSw; (try dsimp only at hSw); go_simp; (try with_reducible rfl)
      (try simp only [Act.put, List.getElem_toArray, List.getElem_cons_zero, List.getElem_cons_succ, Array.getInternal_eq_getElem, List.setIfInBounds_toArray, List.set_cons_zero, List.set_cons_succ])
      refine wpAnyH_take (i := 4) (v := ?_) rfl (by kernel_rfl) (by kernel_rfl) (by kernel_rfl) (fun _ _ _ h => h) (Or.inl ⟨by rfl, ?_⟩) (by assumption) ?_
      rotate_left
      · intro w hSw; (try dsimp only at hSw); go_simp; (try with_reducible rfl)
      (try simp only [Act.put, List.getElem_toArray, List.getElem_cons_zero, List.getElem_cons_succ, Array.getInternal_eq_getElem, List.setIfInBounds_toArray, List.set_cons_zero, List.set_cons_succ])
      refine wpAnyH_take (i := 5) (v := ?_) rfl (by kernel_rfl) (by kernel_rfl) (by kernel_rfl) (fun _ _ _ h => h) (Or.inl ⟨by rfl, ?_⟩) (by assumption) ?_
      rotate_left
      · intro w hSw; (try dsimp only at hSw); go_simp; (try with_reducible rfl)
      (try simp only [Act.put, List.getElem_toArray, List.getElem_cons_zero, List.getElem_cons_succ, Array.getInternal_eq_getElem, List.setIfInBounds_toArray, List.set_cons_zero, List.set_cons_succ])
      refine wpAnyH_ready (rs := [3]) (by kernel_rfl) (by simp) ?_
      refine AllReadyH.cons rfl (fun K hK => ?_) AllReadyH.nil
      go_simp
      go_at_call 13
      refine (HRZ.out _ hHeld.2.2).mono ?_
      rintro e wa ⟨rfl, hba⟩
      refine hK.out _ _ (keep11 hba hHeld) (fun hHeld => ?_)
      clear hK K
      (try simp only [Act.put, List.getElem_toArray, List.getElem_cons_zero, List.getElem_cons_succ, Array.getInternal_eq_getElem, List.setIfInBounds_toArray, List.set_cons_zero, List.set_cons_succ])
      refine wpAnyH_take (i := 6) (v := ?_) rfl (by kernel_rfl) (by kernel_rfl) (by kernel_rfl) (fun _ _ _ h => h) (Or.inl ⟨by rfl, ?_⟩) (by assumption) ?_
      rotate_left
      · intro w hSw; (try dsimp only at hSw); go_simp; (try with_reducible rfl)
      (try simp only [Act.put, List.getElem_toArray, List.getElem_cons_zero, List.getElem_cons_succ, Array.getInternal_eq_getElem, List.setIfInBounds_toArray, List.set_cons_zero, List.set_cons_succ])
      refine wpAnyH_take (i := 7) (v := ?_) rfl (by kernel_rfl) (by kernel_rfl) (by kernel_rfl) (fun _ _ _ h => h) (Or.inl ⟨by rfl, ?_⟩) (by assumption) ?_
      rotate_left
      · intro w hSw; (try dsimp only at hSw); go_simp; (try with_reducible rfl)
      (try simp only [Act.put, List.getElem_toArray, List.getElem_cons_zero, List.getElem_cons_succ, Array.getInternal_eq_getElem, List.setIfInBounds_toArray, List.set_cons_zero, List.set_cons_succ])
      refine wpAnyH_take (i := 8) (v := ?_) rfl (by kernel_rfl) (by kernel_rfl) (by kernel_rfl) (fun _ _ _ h => h) (Or.inl ⟨by rfl, ?_⟩) (by assumption) ?_
      rotate_left
      · intro w hSw; (try dsimp only at hSw); go_simp; (try with_reducible rfl)
      (try simp only [Act.put, List.getElem_toArray, List.getElem_cons_zero, List.getElem_cons_succ, Array.getInternal_eq_getElem, List.setIfInBounds_toArray, List.set_cons_zero, List.set_cons_succ])
      refine wpAnyH_take (i := 9) (v := ?_) rfl (by kernel_rfl) (by kernel_rfl) (by kernel_rfl) (fun _ _ _ h => h) (Or.inl ⟨by rfl, ?_⟩) (by assumption) ?_
      rotate_left
      · intro w hSw; (try dsimp only at hSw); go_simp; (try with_reducible rfl)
      (try simp only [Act.put, List.getElem_toArray, List.getElem_cons_zero, List.getElem_cons_succ, Array.getInternal_eq_getElem, List.setIfInBounds_toArray, List.set_cons_zero, List.set_cons_succ])
      refine wpAnyH_take (i := 10) (v := ?_) rfl (by kernel_rfl) (by kernel_rfl) (by kernel_rfl) (fun _ _ _ h => h) (Or.inl ⟨by rfl, ?_⟩) (by assumption) ?_
      rotate_left
      · intro w hSw; (try dsimp only at hSw); go_simp; (try with_reducible rfl)
      (try simp only [Act.put, List.getElem_toArray, List.getElem_cons_zero, List.getElem_cons_succ, Array.getInternal_eq_getElem, List.setIfInBounds_toArray, List.set_cons_zero, List.set_cons_succ])
      refine wpAnyH_take (i := 11) (v := ?_) rfl (by kernel_rfl) (by kernel_rfl) (by kernel_rfl) (fun _ _ _ h => h) (Or.inl ⟨by rfl, ?_⟩) (by assumption) ?_
      rotate_left
      · intro w hSw; (try dsimp only at hSw); go_simp; (try with_reducible rfl)
      (try simp only [Act.put, List.getElem_toArray, List.getElem_cons_zero, List.getElem_cons_succ, Array.getInternal_eq_getElem, List.setIfInBounds_toArray, List.set_cons_zero, List.set_cons_succ])
      refine wpAnyH_take (i := 12) (v := ?_) rfl (by kernel_rfl) (by kernel_rfl) (by kernel_rfl) (fun _ _ _ h => h) (Or.inl ⟨by rfl, ?_⟩) (by assumption) ?_
      rotate_left
      · intro w hSw; (try dsimp only at hSw); go_simp; (try with_reducible rfl)
      (try simp only [Act.put, List.getElem_toArray, List.getElem_cons_zero, List.getElem_cons_succ, Array.getInternal_eq_getElem, List.setIfInBounds_toArray, List.set_cons_zero, List.set_cons_succ])
      refine wpAnyH_take (i := 13) (v := ?_) rfl (by kernel_rfl) (by kernel_rfl) (by kernel_rfl) (fun _ _ _ h => h) (Or.inl ⟨by rfl, ?_⟩) (by assumption) ?_
      rotate_left
      · intro w hSw; (try dsimp only at hSw); go_simp; (try with_reducible rfl)
      (try simp only [Act.put, List.getElem_toArray, List.getElem_cons_zero, List.getElem_cons_succ, Array.getInternal_eq_getElem, List.setIfInBounds_toArray, List.set_cons_zero, List.set_cons_succ])
      refine wpAnyH_take (i := 14) (v := ?_) rfl (by kernel_rfl) (by kernel_rfl) (by kernel_rfl) (fun _ _ _ h => h) (Or.inl ⟨by rfl, ?_⟩) (by assumption) ?_
      rotate_left
      · intro w hSw; (try dsimp only at hSw); go_simp; (try with_reducible rfl)
      (try simp only [Act.put, List.getElem_toArray, List.getElem_cons_zero, List.getElem_cons_succ, Array.getInternal_eq_getElem, List.setIfInBounds_toArray, List.set_cons_zero, List.set_cons_succ])
      refine wpAnyH_take (i := 15) (v := ?_) rfl (by kernel_rfl) (by kernel_rfl) (by kernel_rfl) (fun _ _ _ h => h) (Or.inl ⟨by rfl, ?_⟩) (by assumption) ?_
      rotate_left
      · intro w hSw; (try dsimp only at hSw); go_simp; (try with_reducible rfl)
      (try simp only [Act.put, List.getElem_toArray, List.getElem_cons_zero, List.getElem_cons_succ, Array.getInternal_eq_getElem, List.setIfInBounds_toArray, List.set_cons_zero, List.set_cons_succ])
      refine wpAnyH_take (i := 16) (v := ?_) rfl (by kernel_rfl) (by kernel_rfl) (by kernel_rfl) (fun _ _ _ h => h) (Or.inl ⟨by rfl, ?_⟩) (by assumption) ?_
      rotate_left
      · intro w hSw; (try dsimp only at hSw); go_simp; (try with_reducible rfl)
      (try simp only [Act.put, List.getElem_toArray, List.getElem_cons_zero, List.getElem_cons_succ, Array.getInternal_eq_getElem, List.setIfInBounds_toArray, List.set_cons_zero, List.set_cons_succ])
      refine wpAnyH_take (i := 17) (v := ?_) rfl (by kernel_rfl) (by kernel_rfl) (by kernel_rfl) (fun _ _ _ h => h) (Or.inl ⟨by rfl, ?_⟩) (by assumption) ?_
      rotate_left
      · intro w hSw; (try dsimp only at hSw); go_simp; (try with_reducible rfl)
      (try simp only [Act.put, List.getElem_toArray, List.getElem_cons_zero, List.getElem_cons_succ, Array.getInternal_eq_getElem, List.setIfInBounds_toArray, List.set_cons_zero, List.set_cons_succ])
      refine wpAnyH_take (i := 18) (v := ?_) rfl (by kernel_rfl) (by kernel_rfl) (by kernel_rfl) (fun _ _ _ h => h) (Or.inl ⟨by rfl, ?_⟩) (by assumption) ?_
      rotate_left
      · intro w hSw; (try dsimp only at hSw); go_simp; (try with_reducible rfl)
      (try simp only [Act.put, List.getElem_toArray, List.getElem_cons_zero, List.getElem_cons_succ, Array.getInternal_eq_getElem, List.setIfInBounds_toArray, List.set_cons_zero, List.set_cons_succ])
      refine wpAnyH_take (i := 19) (v := undef) rfl (by kernel_rfl) (by kernel_rfl) (by kernel_rfl) (fun _ _ _ h => h) (Or.inr ⟨by rfl, rfl⟩) (by assumption) ?_
      (try simp only [Act.put, List.getElem_toArray, List.getElem_cons_zero, List.getElem_cons_succ, Array.getInternal_eq_getElem, List.setIfInBounds_toArray, List.set_cons_zero, List.set_cons_succ])
      refine wpAnyH_take (i := 20) (v := undef) rfl (by kernel_rfl) (by kernel_rfl) (by kernel_rfl) (fun _ _ _ h => h) (Or.inr ⟨by rfl, rfl⟩) (by assumption) ?_
      (try simp only [Act.put, List.getElem_toArray, List.getElem_cons_zero, List.getElem_cons_succ, Array.getInternal_eq_getElem, List.setIfInBounds_toArray, List.set_cons_zero, List.set_cons_succ])
      refine wpAnyH_take (i := 21) (v := undef) rfl (by kernel_rfl) (by kernel_rfl) (by kernel_rfl) (fun _ _ _ h => h) (Or.inr ⟨by rfl, rfl⟩) (by assumption) ?_
      (try simp only [Act.put, List.getElem_toArray, List.getElem_cons_zero, List.getElem_cons_succ, Array.getInternal_eq_getElem, List.setIfInBounds_toArray, List.set_cons_zero, List.set_cons_succ])
      refine wpAnyH_take (i := 22) (v := undef) rfl (by kernel_rfl) (by kernel_rfl) (by kernel_rfl) (fun _ _ _ h => h) (Or.inr ⟨by rfl, rfl⟩) (by assumption) ?_
      (try simp only [Act.put, List.getElem_toArray, List.getElem_cons_zero, List.getElem_cons_succ, Array.getInternal_eq_getElem, List.setIfInBounds_toArray, List.set_cons_zero, List.set_cons_succ])
      refine wpAnyH_take (i := 23) (v := undef) rfl (by kernel_rfl) (by kernel_rfl) (by kernel_rfl) (fun _ _ _ h => h) (Or.inr ⟨by rfl, rfl⟩) (by assumption) ?_
      (try simp only [Act.put, List.getElem_toArray, List.getElem_cons_zero, List.getElem_cons_succ, Array.getInternal_eq_getElem, List.setIfInBounds_toArray, List.set_cons_zero, List.set_cons_succ])
      refine wpAnyH_take (i := 24) (v := ?_) rfl (by kernel_rfl) (by kernel_rfl) (by kernel_rfl) (fun _ _ _ h => h) (Or.inl ⟨by rfl, ?_⟩) (by assumption) ?_
      rotate_left
      · intro w hSw; (try dsimp only at hSw); go_simp; (try with_reducible rfl)
      (try simp only [Act.put, List.getElem_toArray, List.getElem_cons_zero, List.getElem_cons_succ, Array.getInternal_eq_getElem, List.setIfInBounds_toArray, List.set_cons_zero, List.set_cons_succ])
      refine wpAnyH_take (i := 25) (v := ?_) rfl (by kernel_rfl) (by kernel_rfl) (by kernel_rfl) (fun _ _ _ h => h) (Or.inl ⟨by rfl, ?_⟩) (by assumption) ?_
      rotate_left
      · intro w hSw; (try dsimp only at hSw); go_simp; (try with_reducible rfl)
      (try simp only [Act.put, List.getElem_toArray, List.getElem_cons_zero, List.getElem_cons_succ, Array.getInternal_eq_getElem, List.setIfInBounds_toArray, List.set_cons_zero, List.set_cons_succ])
      refine wpAnyH_ready (rs := [26]) (by kernel_rfl) (by simp) ?_
      refine AllReadyH.cons rfl (fun K hK => ?_) AllReadyH.nil
      go_simp
      refine hK.out _ _ hHeld (fun hHeld => ?_)
      clear hK K
      (try simp only [Act.put, List.getElem_toArray, List.getElem_cons_zero, List.getElem_cons_succ, Array.getInternal_eq_getElem, List.setIfInBounds_toArray, List.set_cons_zero, List.set_cons_succ])
      refine wpAnyH_done (by kernel_rfl) ?_ _
      go_wp2
      go_ret
      exact ⟨rfl, chain hBz hHeld.2.2⟩
end Go.Proofs.YtclhgmopphhalaaGreatDoor
