/-
  SlotsTells, as a walk: it returns true.
-/
import Derived.Test.YtaelfjphgdlbcaaSHg
import Derived.Test.YtaelfjphgdlbcaaSDe
import Derived.Deep.RegionHeld3
namespace Go.Proofs.Ytaelfjphgdlbcaa
open Go.RowKit
set_option linter.unusedVariables false
set_option linter.unusedSimpArgs false
open WordM (L)
open VM
open CodM (St Pg hasS)
open SlM

set_option maxHeartbeats 8000000 in
set_option maxRecDepth 100000 in
theorem ste_law {v vf vg : Value} {P : Pg} {F : Fl} {g : List Int} (n th at1 : Int) (w : World) (hp : PgV w.heap.size w v P) (hv : FlV w.heap.size w vf F) (hg : Ints w.heap.size w vg g) (hzi : ∀ vi vt, v = .agg #[vi, vt] → NilZ vi) (hn : n ≤ 9223372036854775807) :
    Calls Try.prog 3 #[v, vf, vg, .int .i64 n, .int .i64 th, .int .i64 at1] w fun e w' => e = .returned (.bool true) ∧ Below w.heap.size w w' := by
  obtain ⟨pi, pt, rfl, hpm⟩ := hp
  obtain ⟨vi, vt, vc, rfl, hm⟩ := hv
  have HZI := Lib.hid (hzi _ _ rfl)
  have HHd := Lib.hid (fun W => shead_any W)
  have HM := Lib.hid (fun W (hW : Below w.heap.size w W) => show PgM W.heap.size W pi pt P from (hpm.below hW).more hW.size)
  have HGP := Lib.hid (fun W (hW : Below w.heap.size w W) => sgreat_any W ⟨pi, pt, rfl, HM.out W hW⟩ (Nat.le_refl _))
  have HV := Lib.hid (fun W (hW : Below w.heap.size w W) => show FlV W.heap.size W (flv ⟨F.name.toArray⟩ vi vt vc F.all) F from ⟨vi, vt, vc, rfl, (hm.below hW).more hW.size⟩)
  have HG := Lib.hid (fun W (hW : Below w.heap.size w W) => show Ints W.heap.size W vg g from (hg.below hW).more hW.size)
  have HGF := Lib.hid (fun W (hW : Below w.heap.size w W) => vgreat_any W (HV.out W hW) (Nat.le_refl _))
  clear hzi
  obtain ⟨⟨P0, d0, rfl, -⟩, ⟨P1, d1, rfl, l1, l2, -⟩⟩ := hpm
  obtain ⟨⟨A0, c0, rfl, -⟩, ⟨A2, c2, rfl, -⟩, ⟨A1, c1, rfl, -⟩⟩ := hm
  obtain ⟨AG, cg, rfl, hg1, hg2, -⟩ := hg
  unfold flv at *
  unfold maxLen at l2 hg2
  obtain ⟨W0, hW0⟩ : ∃ W, W = (w.alloc (.cells #[.slice P0 P.init.length d0, .slice P1 P.ths.length d1] 25)).alloc (.cells #[.string ⟨F.name.toArray⟩, .slice A0 F.init.length c0, .slice A2 F.ths.length c2, .bool F.all, .slice A1 F.cond.length c1] 30) := ⟨_, rfl⟩
  have hB : Below w.heap.size w W0 := by rw [hW0]; exact below_al (below_al (Below.refl _ _) _) _
  have HP := Lib.hid (show PgBox W0 w.heap.size (.slice P0 P.init.length d0) (.slice P1 P.ths.length d1) from by rw [hW0]; exact (PgBox.at (w := w) rfl _ _ 25).below (below_al (Below.refl _ _) _))
  have hbx := Lib.hid (show FlBox W0 (w.heap.size + 1) ⟨F.name.toArray⟩ (.slice A0 F.init.length c0) (.slice A2 F.ths.length c2) (.slice A1 F.cond.length c1) F.all from by
    rw [hW0]; exact FlBox.at (w := w.alloc (.cells #[.slice P0 P.init.length d0, .slice P1 P.ths.length d1] 25)) (by simp) ⟨F.name.toArray⟩ _ _ _ F.all 30)
  go_enter Try.func3, Try.ntmps3
  go_upto_region 1 with fail
  rw [← hW0]
  obtain ⟨gf, hgf⟩ : ∃ x, x = w.heap.size + 1 := ⟨_, rfl⟩
  obtain ⟨gp, hgp⟩ : ∃ x, x = w.heap.size := ⟨_, rfl⟩
  rw [← hgf] at hbx ⊢
  rw [← hgp] at HP ⊢
  have HGP0 := Lib.hid hgp
  clear hW0 hgf hgp
  obtain ⟨x0, x1⟩ := HP.out
  obtain ⟨t0, t1, t2, t3, t4⟩ := hbx.out
  go_wp2_with fail
  refine (HHd.out _).mono ?_
  rintro e w1 ⟨rfl, hbb⟩
  replace hB := chain hB hbb
  replace HP := Lib.hid (HP.out.below hbb)
  replace hbx := Lib.hid (hbx.out.below hbb)
  clear x0 x1 t0 t1 t2 t3 t4 hbb
  obtain ⟨x0, x1⟩ := HP.out
  obtain ⟨t0, t1, t2, t3, t4⟩ := hbx.out
  clear HHd
  go_wp2_with fail
  refine (HGP.out _ hB).mono ?_
  rintro e w2 ⟨gb, rfl, hsx, hbb⟩
  replace hB := chain hB hbb
  replace HP := Lib.hid (HP.out.below hbb)
  replace hbx := Lib.hid (hbx.out.below hbb)
  clear x0 x1 t0 t1 t2 t3 t4 hbb
  obtain ⟨x0, x1⟩ := HP.out
  obtain ⟨t0, t1, t2, t3, t4⟩ := hbx.out
  cases gb
  case true =>
    go_wp2
    go_ret
    exact ⟨rfl, HGP0.out ▸ hB⟩
  have HSC := Lib.hid (hsx rfl)
  clear hsx HGP
  go_wp2_with fail
  refine (HGF.out _ hB).mono ?_
  rintro e w3 ⟨gb, rfl, hsx, hbb⟩
  replace hB := chain hB hbb
  replace HP := Lib.hid (HP.out.below hbb)
  replace hbx := Lib.hid (hbx.out.below hbb)
  clear x0 x1 t0 t1 t2 t3 t4 hbb
  obtain ⟨x0, x1⟩ := HP.out
  obtain ⟨t0, t1, t2, t3, t4⟩ := hbx.out
  cases gb
  case true =>
    go_wp2
    go_ret
    exact ⟨rfl, HGP0.out ▸ hB⟩
  have HSF := Lib.hid (hsx rfl)
  clear hsx HGF
  by_cases hgl : 100 < g.length
  · have q : decide (100 < g.length) = true := decide_eq_true hgl
    go_wp2
    go_ret
    exact ⟨rfl, HGP0.out ▸ hB⟩
  have q : decide (100 < g.length) = false := decide_eq_false hgl
  have HL := Lib.hid (show P.ths.length ≤ 1000000 from by have := HSC.out.s.ths; omega)
  have HLL := Lib.hid (show ∀ ss ∈ P.ths, ss.length ≤ 1000000 from fun ss hs => by have := HSC.out.f ss hs; omega)
  have HGL := Lib.hid (show g.length ≤ 1000000 from by omega)
  have HSA := Lib.hid (small_a HSF.out)
  have HPV := Lib.hid (fun W (hW : Below w.heap.size w W) => show PgV W.heap.size W (.agg #[.slice P0 P.init.length d0, .slice P1 P.ths.length d1]) P from ⟨_, _, rfl, HM.out W hW⟩)
  have HOf := Lib.hid (fun W (hW : Below w.heap.size w W) => of_any (vi := .slice P0 P.init.length d0) n W ⟨_, _, _, rfl⟩ (HM.out W hW).2 (Nat.le_refl _) HL.out HLL.out)
  have HRO := Lib.hid (fun W (hW : Below w.heap.size w W) => rof_any n W (HPV.out W hW) (Nat.le_refl _) HL.out HLL.out hn)
  have HER := Lib.hid (fun W (hW : Below w.heap.size w W) => erase_any (F := F) (g := g) W (HV.out W hW) (HG.out W hW) (Nat.le_refl _) HSA.out.l HSA.out.s HGL.out HSA.out.i HSA.out.c)
  have HRE := Lib.hid (fun W (hW : Below w.heap.size w W) => rerase_any (F := F) (g := g) W (HV.out W hW) (HG.out W hW) (Nat.le_refl _) HSA.out)
  go_wp2_with fail
  refine (HOf.out _ hB).mono ?_
  rintro e w4 ⟨r1, rfl, hr1, hbb⟩
  replace hB := chain hB hbb
  replace HP := Lib.hid (HP.out.below hbb)
  replace hbx := Lib.hid (hbx.out.below hbb)
  clear x0 x1 t0 t1 t2 t3 t4 hbb
  obtain ⟨x0, x1⟩ := HP.out
  obtain ⟨t0, t1, t2, t3, t4⟩ := hbx.out
  go_wp2_with fail
  refine (HRO.out _ hB).mono ?_
  rintro e w5 ⟨⟨r2, rfl, hr2⟩, hbb⟩
  obtain rfl := IsOf.one hr1 hr2
  replace hB := chain hB hbb
  replace HP := Lib.hid (HP.out.below hbb)
  replace hbx := Lib.hid (hbx.out.below hbb)
  clear x0 x1 t0 t1 t2 t3 t4 hbb
  obtain ⟨x0, x1⟩ := HP.out
  obtain ⟨t0, t1, t2, t3, t4⟩ := hbx.out
  clear hr1 hr2 HOf HRO
  obtain ⟨rt, rk, ri⟩ := r1
  dsimp only
  go_wp2_with fail
  refine (HER.out _ hB).mono ?_
  rintro e w6 ⟨u, rfl, hF6, hbb⟩
  replace hB := chain hB hbb
  replace HP := Lib.hid (HP.out.below hbb)
  replace hbx := Lib.hid (hbx.out.below hbb)
  clear x0 x1 t0 t1 t2 t3 t4 hbb
  obtain ⟨x0, x1⟩ := HP.out
  obtain ⟨t0, t1, t2, t3, t4⟩ := hbx.out
  obtain ⟨E, hE⟩ : ∃ E, E = eraR F g := ⟨_, rfl⟩
  rw [← hE] at hF6
  have HEE := Lib.hid hE
  have HF6 := Lib.hid hF6
  obtain ⟨vi6, vt6, vc6, rfl, ⟨A3, c3, rfl, -⟩, ⟨A4, c4, rfl, -⟩, ⟨A5, c5, rfl, -⟩⟩ := hF6
  clear hE HER
  unfold flv at *
  go_upto_region 7 with fail
  have hbb := below_al (Below.refl w6.heap.size w6) (.cells #[.string ⟨E.name.toArray⟩, .slice A3 E.init.length c3, .slice A4 E.ths.length c4, .bool E.all, .slice A5 E.cond.length c5] 30)
  have hb1 := Lib.hid (FlBox.at (w := w6) rfl ⟨E.name.toArray⟩ (.slice A3 E.init.length c3) (.slice A4 E.ths.length c4) (.slice A5 E.cond.length c5) E.all 30)
  replace HF6 := Lib.hid ((HF6.out.below hbb).more hbb.size)
  replace hB := chain hB hbb
  replace HP := Lib.hid (HP.out.below hbb)
  replace hbx := Lib.hid (hbx.out.below hbb)
  clear x0 x1 t0 t1 t2 t3 t4
  obtain ⟨x0, x1⟩ := HP.out
  obtain ⟨t0, t1, t2, t3, t4⟩ := hbx.out
  generalize w6.alloc (.cells #[.string ⟨E.name.toArray⟩, .slice A3 E.init.length c3, .slice A4 E.ths.length c4, .bool E.all, .slice A5 E.cond.length c5] 30) = w7 at *
  clear hbb
  obtain ⟨g1, hg1'⟩ : ∃ g, g = w6.heap.size := ⟨_, rfl⟩
  rw [← hg1'] at hb1 ⊢
  clear hg1'
  go_wp2_with fail
  refine (HRE.out _ hB).mono ?_
  rintro e w8 ⟨u, rfl, hF8, hbb⟩
  rw [← HEE.out] at hF8
  replace hb1 := Lib.hid (hb1.out.below hbb)
  replace HF6 := Lib.hid ((HF6.out.below hbb).more hbb.size)
  replace hB := chain hB hbb
  replace HP := Lib.hid (HP.out.below hbb)
  replace hbx := Lib.hid (hbx.out.below hbb)
  clear x0 x1 t0 t1 t2 t3 t4 hbb
  obtain ⟨x0, x1⟩ := HP.out
  obtain ⟨t0, t1, t2, t3, t4⟩ := hbx.out
  have HF8 := Lib.hid hF8
  obtain ⟨vi8, vt8, vc8, rfl, ⟨A6, c6, rfl, -⟩, ⟨A7, c7, rfl, -⟩, ⟨A8, c8, rfl, -⟩⟩ := hF8
  clear HRE
  unfold flv at *
  go_upto_region 8 with fail
  have hbb := below_al (Below.refl w8.heap.size w8) (.cells #[.string ⟨E.name.toArray⟩, .slice A6 E.init.length c6, .slice A7 E.ths.length c7, .bool E.all, .slice A8 E.cond.length c8] 30)
  have hb2 := Lib.hid (FlBox.at (w := w8) rfl ⟨E.name.toArray⟩ (.slice A6 E.init.length c6) (.slice A7 E.ths.length c7) (.slice A8 E.cond.length c8) E.all 30)
  replace HF6 := Lib.hid ((HF6.out.below hbb).more hbb.size)
  replace HF8 := Lib.hid ((HF8.out.below hbb).more hbb.size)
  replace hb1 := Lib.hid (hb1.out.below hbb)
  replace hB := chain hB hbb
  replace HP := Lib.hid (HP.out.below hbb)
  replace hbx := Lib.hid (hbx.out.below hbb)
  clear x0 x1 t0 t1 t2 t3 t4
  obtain ⟨x0, x1⟩ := HP.out
  obtain ⟨t0, t1, t2, t3, t4⟩ := hbx.out
  generalize w8.alloc (.cells #[.string ⟨E.name.toArray⟩, .slice A6 E.init.length c6, .slice A7 E.ths.length c7, .bool E.all, .slice A8 E.cond.length c8] 30) = w9 at *
  clear hbb
  obtain ⟨g2, hg2'⟩ : ∃ g, g = w8.heap.size := ⟨_, rfl⟩
  rw [← hg2'] at hb2 ⊢
  clear hg2'
  obtain ⟨s0, s1, s2, s3, s4⟩ := hb1.out
  obtain ⟨y0, y1, y2, y3, y4⟩ := hb2.out
  generalize eraB F g = eb at *
  have HB9 := Lib.hid hB
  have HMa := Lib.hid (fun W (hW : Below w.heap.size w W) => many_any (vi := .slice P0 P.init.length d0) W ⟨_, _, _, rfl⟩ (HM.out W hW).2 (Nat.le_refl _) HL.out HLL.out)
  have HRM := Lib.hid (fun W (hW : Below w.heap.size w W) => rmany_any W (HPV.out W hW) (Nat.le_refl _) HL.out HLL.out)
  have HNu := Lib.hid (fun W (hW : Below w.heap.size w W) => num_any (vi := .slice P0 P.init.length d0) th at1 W ⟨_, _, _, rfl⟩ (HM.out W hW).2 (Nat.le_refl _) HL.out HLL.out)
  have HRN := Lib.hid (fun W (hW : Below w.heap.size w W) => rnum_any th at1 W (HPV.out W hW) (Nat.le_refl _) HL.out HLL.out)
  have HIn := Lib.hid (fun W (hW : Below w.heap.size w W) => insert_any (P := P) (g := g) W (HPV.out W hW) (HG.out W hW) (Nat.le_refl _) (by have := HSC.out.s.init; omega) HL.out HLL.out HGL.out HSC.out.jmp)
  have HRI := Lib.hid (fun W (hW : Below w.heap.size w W) => rinsert_any (P := P) (g := g) W (HM.out W hW) (HG.out W hW) (Nat.le_refl _) HSC.out HZI.out)
  have HFe := Lib.hid (fun W (hW : Below w.heap.size w W) => fence_any (F := F) (g := g) W (HV.out W hW) (HG.out W hW) (Nat.le_refl _) HSA.out.l HSA.out.s HGL.out HSA.out.i HSA.out.c)
  have HRF := Lib.hid (fun W (hW : Below w.heap.size w W) => rfence_any (F := F) (g := g) W (HV.out W hW) (HG.out W hW) (Nat.le_refl _) HSA.out)
  generalize many anyS P.ths = MM at *
  generalize numI P.ths th at1 = NN at *
  clear hB
  refine wp_region_held_drew (S := (fun w' => (w'.cell? ⟨gp, 0, none⟩ = some (.slice P0 P.init.length d0) ∧ w'.cell? ⟨gp, 1, none⟩ = some (.slice P1 P.ths.length d1) ∧ w'.cell? ⟨gf, 0, none⟩ = some (.string ⟨F.name.toArray⟩) ∧ w'.cell? ⟨gf, 1, none⟩ = some (.slice A0 F.init.length c0) ∧ w'.cell? ⟨gf, 2, none⟩ = some (.slice A2 F.ths.length c2) ∧ w'.cell? ⟨gf, 3, none⟩ = some (.bool F.all) ∧ w'.cell? ⟨gf, 4, none⟩ = some (.slice A1 F.cond.length c1) ∧ w'.cell? ⟨g1, 0, none⟩ = some (.string ⟨E.name.toArray⟩) ∧ w'.cell? ⟨g1, 1, none⟩ = some (.slice A3 E.init.length c3) ∧ w'.cell? ⟨g1, 2, none⟩ = some (.slice A4 E.ths.length c4) ∧ w'.cell? ⟨g1, 3, none⟩ = some (.bool E.all) ∧ w'.cell? ⟨g1, 4, none⟩ = some (.slice A5 E.cond.length c5) ∧ w'.cell? ⟨g2, 0, none⟩ = some (.string ⟨E.name.toArray⟩) ∧ w'.cell? ⟨g2, 1, none⟩ = some (.slice A6 E.init.length c6) ∧ w'.cell? ⟨g2, 2, none⟩ = some (.slice A7 E.ths.length c7) ∧ w'.cell? ⟨g2, 3, none⟩ = some (.bool E.all) ∧ w'.cell? ⟨g2, 4, none⟩ = some (.slice A8 E.cond.length c8)) ∧ Below w9.heap.size w9 w')) (by kernel_rfl) ⟨⟨x0, x1, t0, t1, t2, t3, t4, s0, s1, s2, s3, s4, y0, y1, y2, y3, y4⟩, below_drewN (Below.refl _ _) 1⟩ (fun hHeld => ?_)
  refine wpAnyH_take (i := 0) (v := ?_) rfl (by kernel_rfl) (by kernel_rfl) (by kernel_rfl) (fun _ _ _ h => h) (Or.inl ⟨by rfl, ?_⟩) (by assumption) ?_
  rotate_left
  · intro w hSw; (try dsimp only at hSw); go_simp; (try with_reducible rfl)
  (try simp only [Act.put, List.getElem_toArray, List.getElem_cons_zero, List.getElem_cons_succ, Array.getInternal_eq_getElem, List.setIfInBounds_toArray, List.set_cons_zero, List.set_cons_succ])
  refine wpAnyH_take (i := 1) (v := ?_) rfl (by kernel_rfl) (by kernel_rfl) (by kernel_rfl) (fun _ _ _ h => h) (Or.inl ⟨by rfl, ?_⟩) (by assumption) ?_
  rotate_left
  · intro w hSw; (try dsimp only at hSw); go_simp; (try with_reducible rfl)
  (try simp only [Act.put, List.getElem_toArray, List.getElem_cons_zero, List.getElem_cons_succ, Array.getInternal_eq_getElem, List.setIfInBounds_toArray, List.set_cons_zero, List.set_cons_succ])
  refine wpAnyH_take (i := 2) (v := ?_) rfl (by kernel_rfl) (by kernel_rfl) (by kernel_rfl) (fun _ _ _ h => h) (Or.inl ⟨by rfl, ?_⟩) (by assumption) ?_
  rotate_left
  · intro w hSw; (try dsimp only at hSw); go_simp; (try with_reducible rfl)
  (try simp only [Act.put, List.getElem_toArray, List.getElem_cons_zero, List.getElem_cons_succ, Array.getInternal_eq_getElem, List.setIfInBounds_toArray, List.set_cons_zero, List.set_cons_succ])
  refine wpAnyH_take (i := 4) (v := ?_) rfl (by kernel_rfl) (by kernel_rfl) (by kernel_rfl) (fun _ _ _ h => h) (Or.inl ⟨by rfl, ?_⟩) (by assumption) ?_
  rotate_left
  · intro w hSw; (try dsimp only at hSw); go_simp; (try with_reducible rfl)
  (try simp only [Act.put, List.getElem_toArray, List.getElem_cons_zero, List.getElem_cons_succ, Array.getInternal_eq_getElem, List.setIfInBounds_toArray, List.set_cons_zero, List.set_cons_succ])
  refine wpAnyH_ready (rs := [3]) (by kernel_rfl) (by simp) ?_
  refine AllReadyH.cons rfl (fun K hK => ?_) AllReadyH.nil
  go_simp
  refine (HMa.out _ (chain HB9.out hHeld.2)).mono ?_
  rintro e wa0 ⟨rfl, hba⟩
  obtain ⟨q0, q1, q2, q3, q4, q5, q6, q7, q8, q9, q10, q11, q12, q13, q14, q15, q16⟩ := hHeld.1
  refine hK.out _ _ ⟨⟨kc hba q0, kc hba q1, kc hba q2, kc hba q3, kc hba q4, kc hba q5, kc hba q6, kc hba q7, kc hba q8, kc hba q9, kc hba q10, kc hba q11, kc hba q12, kc hba q13, kc hba q14, kc hba q15, kc hba q16⟩, chain hHeld.2 hba⟩ (fun hHeld => ?_)
  clear hba q0 q1 q2 q3 q4 q5 q6 q7 q8 q9 q10 q11 q12 q13 q14 q15 q16
  clear hK K
  (try simp only [Act.put, List.getElem_toArray, List.getElem_cons_zero, List.getElem_cons_succ, Array.getInternal_eq_getElem, List.setIfInBounds_toArray, List.set_cons_zero, List.set_cons_succ])
  refine wpAnyH_ready (rs := [5]) (by kernel_rfl) (by simp) ?_
  refine AllReadyH.cons rfl (fun K hK => ?_) AllReadyH.nil
  go_simp
  refine (HRM.out _ (chain HB9.out hHeld.2)).mono ?_
  rintro e wa1 ⟨rfl, hba⟩
  obtain ⟨q0, q1, q2, q3, q4, q5, q6, q7, q8, q9, q10, q11, q12, q13, q14, q15, q16⟩ := hHeld.1
  refine hK.out _ _ ⟨⟨kc hba q0, kc hba q1, kc hba q2, kc hba q3, kc hba q4, kc hba q5, kc hba q6, kc hba q7, kc hba q8, kc hba q9, kc hba q10, kc hba q11, kc hba q12, kc hba q13, kc hba q14, kc hba q15, kc hba q16⟩, chain hHeld.2 hba⟩ (fun hHeld => ?_)
  clear hba q0 q1 q2 q3 q4 q5 q6 q7 q8 q9 q10 q11 q12 q13 q14 q15 q16
  clear hK K
  (try simp only [Act.put, List.getElem_toArray, List.getElem_cons_zero, List.getElem_cons_succ, Array.getInternal_eq_getElem, List.setIfInBounds_toArray, List.set_cons_zero, List.set_cons_succ])
  refine wpAnyH_take (i := 6) (v := ?_) rfl (by kernel_rfl) (by kernel_rfl) (by kernel_rfl) (fun _ _ _ h => h) (Or.inl ⟨by rfl, ?_⟩) (by assumption) ?_
  rotate_left
  · intro w hSw; (try dsimp only at hSw); go_simp; (try with_reducible rfl)
  (try simp only [Act.put, List.getElem_toArray, List.getElem_cons_zero, List.getElem_cons_succ, Array.getInternal_eq_getElem, List.setIfInBounds_toArray, List.set_cons_zero, List.set_cons_succ])
  refine wpAnyH_take (i := 7) (v := ?_) rfl (by kernel_rfl) (by kernel_rfl) (by kernel_rfl) (fun _ _ _ h => h) (Or.inl ⟨by rfl, ?_⟩) (by assumption) ?_
  rotate_left
  · intro w hSw; (try dsimp only at hSw); go_simp; (try with_reducible rfl)
  (try simp only [Act.put, List.getElem_toArray, List.getElem_cons_zero, List.getElem_cons_succ, Array.getInternal_eq_getElem, List.setIfInBounds_toArray, List.set_cons_zero, List.set_cons_succ])
  refine wpAnyH_take (i := 8) (v := ?_) rfl (by kernel_rfl) (by kernel_rfl) (by kernel_rfl) (fun _ _ _ h => h) (Or.inl ⟨by rfl, ?_⟩) (by assumption) ?_
  rotate_left
  · intro w hSw; (try dsimp only at hSw); go_simp; (try with_reducible rfl)
  (try simp only [Act.put, List.getElem_toArray, List.getElem_cons_zero, List.getElem_cons_succ, Array.getInternal_eq_getElem, List.setIfInBounds_toArray, List.set_cons_zero, List.set_cons_succ])
  refine wpAnyH_take (i := 9) (v := ?_) rfl (by kernel_rfl) (by kernel_rfl) (by kernel_rfl) (fun _ _ _ h => h) (Or.inl ⟨by rfl, ?_⟩) (by assumption) ?_
  rotate_left
  · intro w hSw; (try dsimp only at hSw); go_simp; (try with_reducible rfl)
  (try simp only [Act.put, List.getElem_toArray, List.getElem_cons_zero, List.getElem_cons_succ, Array.getInternal_eq_getElem, List.setIfInBounds_toArray, List.set_cons_zero, List.set_cons_succ])
  refine wpAnyH_take (i := 10) (v := ?_) rfl (by kernel_rfl) (by kernel_rfl) (by kernel_rfl) (fun _ _ _ h => h) (Or.inl ⟨by rfl, ?_⟩) (by assumption) ?_
  rotate_left
  · intro w hSw; (try dsimp only at hSw); go_simp; (try with_reducible rfl)
  (try simp only [Act.put, List.getElem_toArray, List.getElem_cons_zero, List.getElem_cons_succ, Array.getInternal_eq_getElem, List.setIfInBounds_toArray, List.set_cons_zero, List.set_cons_succ])
  refine wpAnyH_take (i := 11) (v := ?_) rfl (by kernel_rfl) (by kernel_rfl) (by kernel_rfl) (fun _ _ _ h => h) (Or.inl ⟨by rfl, ?_⟩) (by assumption) ?_
  rotate_left
  · intro w hSw; (try dsimp only at hSw); go_simp; (try with_reducible rfl)
  (try simp only [Act.put, List.getElem_toArray, List.getElem_cons_zero, List.getElem_cons_succ, Array.getInternal_eq_getElem, List.setIfInBounds_toArray, List.set_cons_zero, List.set_cons_succ])
  refine wpAnyH_take (i := 12) (v := ?_) rfl (by kernel_rfl) (by kernel_rfl) (by kernel_rfl) (fun _ _ _ h => h) (Or.inl ⟨by rfl, ?_⟩) (by assumption) ?_
  rotate_left
  · intro w hSw; (try dsimp only at hSw); go_simp; (try with_reducible rfl)
  (try simp only [Act.put, List.getElem_toArray, List.getElem_cons_zero, List.getElem_cons_succ, Array.getInternal_eq_getElem, List.setIfInBounds_toArray, List.set_cons_zero, List.set_cons_succ])
  refine wpAnyH_take (i := 13) (v := ?_) rfl (by kernel_rfl) (by kernel_rfl) (by kernel_rfl) (fun _ _ _ h => h) (Or.inl ⟨by rfl, ?_⟩) (by assumption) ?_
  rotate_left
  · intro w hSw; (try dsimp only at hSw); go_simp; (try with_reducible rfl)
  (try simp only [Act.put, List.getElem_toArray, List.getElem_cons_zero, List.getElem_cons_succ, Array.getInternal_eq_getElem, List.setIfInBounds_toArray, List.set_cons_zero, List.set_cons_succ])
  refine wpAnyH_take (i := 14) (v := ?_) rfl (by kernel_rfl) (by kernel_rfl) (by kernel_rfl) (fun _ _ _ h => h) (Or.inl ⟨by rfl, ?_⟩) (by assumption) ?_
  rotate_left
  · intro w hSw; (try dsimp only at hSw); go_simp; (try with_reducible rfl)
  (try simp only [Act.put, List.getElem_toArray, List.getElem_cons_zero, List.getElem_cons_succ, Array.getInternal_eq_getElem, List.setIfInBounds_toArray, List.set_cons_zero, List.set_cons_succ])
  refine wpAnyH_take (i := 15) (v := ?_) rfl (by kernel_rfl) (by kernel_rfl) (by kernel_rfl) (fun _ _ _ h => h) (Or.inl ⟨by rfl, ?_⟩) (by assumption) ?_
  rotate_left
  · intro w hSw; (try dsimp only at hSw); go_simp; (try with_reducible rfl)
  (try simp only [Act.put, List.getElem_toArray, List.getElem_cons_zero, List.getElem_cons_succ, Array.getInternal_eq_getElem, List.setIfInBounds_toArray, List.set_cons_zero, List.set_cons_succ])
  refine wpAnyH_take (i := 16) (v := ?_) rfl (by kernel_rfl) (by kernel_rfl) (by kernel_rfl) (fun _ _ _ h => h) (Or.inl ⟨by rfl, ?_⟩) (by assumption) ?_
  rotate_left
  · intro w hSw; (try dsimp only at hSw); go_simp; (try with_reducible rfl)
  (try simp only [Act.put, List.getElem_toArray, List.getElem_cons_zero, List.getElem_cons_succ, Array.getInternal_eq_getElem, List.setIfInBounds_toArray, List.set_cons_zero, List.set_cons_succ])
  refine wpAnyH_take (i := 17) (v := ?_) rfl (by kernel_rfl) (by kernel_rfl) (by kernel_rfl) (fun _ _ _ h => h) (Or.inl ⟨by rfl, ?_⟩) (by assumption) ?_
  rotate_left
  · intro w hSw; (try dsimp only at hSw); go_simp; (try with_reducible rfl)
  (try simp only [Act.put, List.getElem_toArray, List.getElem_cons_zero, List.getElem_cons_succ, Array.getInternal_eq_getElem, List.setIfInBounds_toArray, List.set_cons_zero, List.set_cons_succ])
  refine wpAnyH_take (i := 18) (v := ?_) rfl (by kernel_rfl) (by kernel_rfl) (by kernel_rfl) (fun _ _ _ h => h) (Or.inl ⟨by rfl, ?_⟩) (by assumption) ?_
  rotate_left
  · intro w hSw; (try dsimp only at hSw); go_simp; (try with_reducible rfl)
  (try simp only [Act.put, List.getElem_toArray, List.getElem_cons_zero, List.getElem_cons_succ, Array.getInternal_eq_getElem, List.setIfInBounds_toArray, List.set_cons_zero, List.set_cons_succ])
  refine wpAnyH_take (i := 19) (v := ?_) rfl (by kernel_rfl) (by kernel_rfl) (by kernel_rfl) (fun _ _ _ h => h) (Or.inl ⟨by rfl, ?_⟩) (by assumption) ?_
  rotate_left
  · intro w hSw; (try dsimp only at hSw); go_simp; (try with_reducible rfl)
  (try simp only [Act.put, List.getElem_toArray, List.getElem_cons_zero, List.getElem_cons_succ, Array.getInternal_eq_getElem, List.setIfInBounds_toArray, List.set_cons_zero, List.set_cons_succ])
  refine wpAnyH_take (i := 20) (v := ?_) rfl (by kernel_rfl) (by kernel_rfl) (by kernel_rfl) (fun _ _ _ h => h) (Or.inl ⟨by rfl, ?_⟩) (by assumption) ?_
  rotate_left
  · intro w hSw; (try dsimp only at hSw); go_simp; (try with_reducible rfl)
  (try simp only [Act.put, List.getElem_toArray, List.getElem_cons_zero, List.getElem_cons_succ, Array.getInternal_eq_getElem, List.setIfInBounds_toArray, List.set_cons_zero, List.set_cons_succ])
  refine wpAnyH_take (i := 21) (v := ?_) rfl (by kernel_rfl) (by kernel_rfl) (by kernel_rfl) (fun _ _ _ h => h) (Or.inl ⟨by rfl, ?_⟩) (by assumption) ?_
  rotate_left
  · intro w hSw; (try dsimp only at hSw); go_simp; (try with_reducible rfl)
  (try simp only [Act.put, List.getElem_toArray, List.getElem_cons_zero, List.getElem_cons_succ, Array.getInternal_eq_getElem, List.setIfInBounds_toArray, List.set_cons_zero, List.set_cons_succ])
  refine wpAnyH_take (i := 22) (v := ?_) rfl (by kernel_rfl) (by kernel_rfl) (by kernel_rfl) (fun _ _ _ h => h) (Or.inl ⟨by rfl, ?_⟩) (by assumption) ?_
  rotate_left
  · intro w hSw; (try dsimp only at hSw); go_simp; (try with_reducible rfl)
  (try simp only [Act.put, List.getElem_toArray, List.getElem_cons_zero, List.getElem_cons_succ, Array.getInternal_eq_getElem, List.setIfInBounds_toArray, List.set_cons_zero, List.set_cons_succ])
  refine wpAnyH_take (i := 23) (v := ?_) rfl (by kernel_rfl) (by kernel_rfl) (by kernel_rfl) (fun _ _ _ h => h) (Or.inl ⟨by rfl, ?_⟩) (by assumption) ?_
  rotate_left
  · intro w hSw; (try dsimp only at hSw); go_simp; (try with_reducible rfl)
  (try simp only [Act.put, List.getElem_toArray, List.getElem_cons_zero, List.getElem_cons_succ, Array.getInternal_eq_getElem, List.setIfInBounds_toArray, List.set_cons_zero, List.set_cons_succ])
  refine wpAnyH_take (i := 24) (v := ?_) rfl (by kernel_rfl) (by kernel_rfl) (by kernel_rfl) (fun _ _ _ h => h) (Or.inl ⟨by rfl, ?_⟩) (by assumption) ?_
  rotate_left
  · intro w hSw; (try dsimp only at hSw); go_simp; (try with_reducible rfl)
  (try simp only [Act.put, List.getElem_toArray, List.getElem_cons_zero, List.getElem_cons_succ, Array.getInternal_eq_getElem, List.setIfInBounds_toArray, List.set_cons_zero, List.set_cons_succ])
  refine wpAnyH_take (i := 25) (v := ?_) rfl (by kernel_rfl) (by kernel_rfl) (by kernel_rfl) (fun _ _ _ h => h) (Or.inl ⟨by rfl, ?_⟩) (by assumption) ?_
  rotate_left
  · intro w hSw; (try dsimp only at hSw); go_simp; (try with_reducible rfl)
  (try simp only [Act.put, List.getElem_toArray, List.getElem_cons_zero, List.getElem_cons_succ, Array.getInternal_eq_getElem, List.setIfInBounds_toArray, List.set_cons_zero, List.set_cons_succ])
  refine wpAnyH_take (i := 26) (v := ?_) rfl (by kernel_rfl) (by kernel_rfl) (by kernel_rfl) (fun _ _ _ h => h) (Or.inl ⟨by rfl, ?_⟩) (by assumption) ?_
  rotate_left
  · intro w hSw; (try dsimp only at hSw); go_simp; (try with_reducible rfl)
  (try simp only [Act.put, List.getElem_toArray, List.getElem_cons_zero, List.getElem_cons_succ, Array.getInternal_eq_getElem, List.setIfInBounds_toArray, List.set_cons_zero, List.set_cons_succ])
  refine wpAnyH_take (i := 28) (v := ?_) rfl (by kernel_rfl) (by kernel_rfl) (by kernel_rfl) (fun _ _ _ h => h) (Or.inl ⟨by rfl, ?_⟩) (by assumption) ?_
  rotate_left
  · intro w hSw; (try dsimp only at hSw); go_simp; (try with_reducible rfl)
  (try simp only [Act.put, List.getElem_toArray, List.getElem_cons_zero, List.getElem_cons_succ, Array.getInternal_eq_getElem, List.setIfInBounds_toArray, List.set_cons_zero, List.set_cons_succ])
  refine wpAnyH_take (i := 29) (v := ?_) rfl (by kernel_rfl) (by kernel_rfl) (by kernel_rfl) (fun _ _ _ h => h) (Or.inl ⟨by rfl, ?_⟩) (by assumption) ?_
  rotate_left
  · intro w hSw; (try dsimp only at hSw); go_simp; (try with_reducible rfl)
  (try simp only [Act.put, List.getElem_toArray, List.getElem_cons_zero, List.getElem_cons_succ, Array.getInternal_eq_getElem, List.setIfInBounds_toArray, List.set_cons_zero, List.set_cons_succ])
  refine wpAnyH_take (i := 30) (v := ?_) rfl (by kernel_rfl) (by kernel_rfl) (by kernel_rfl) (fun _ _ _ h => h) (Or.inl ⟨by rfl, ?_⟩) (by assumption) ?_
  rotate_left
  · intro w hSw; (try dsimp only at hSw); go_simp; (try with_reducible rfl)
  (try simp only [Act.put, List.getElem_toArray, List.getElem_cons_zero, List.getElem_cons_succ, Array.getInternal_eq_getElem, List.setIfInBounds_toArray, List.set_cons_zero, List.set_cons_succ])
  refine wpAnyH_ready (rs := [27]) (by kernel_rfl) (by simp) ?_
  refine AllReadyH.cons rfl (fun K hK => ?_) AllReadyH.nil
  go_simp
  refine (HNu.out _ (chain HB9.out hHeld.2)).mono ?_
  rintro e wa2 ⟨rfl, hba⟩
  obtain ⟨q0, q1, q2, q3, q4, q5, q6, q7, q8, q9, q10, q11, q12, q13, q14, q15, q16⟩ := hHeld.1
  refine hK.out _ _ ⟨⟨kc hba q0, kc hba q1, kc hba q2, kc hba q3, kc hba q4, kc hba q5, kc hba q6, kc hba q7, kc hba q8, kc hba q9, kc hba q10, kc hba q11, kc hba q12, kc hba q13, kc hba q14, kc hba q15, kc hba q16⟩, chain hHeld.2 hba⟩ (fun hHeld => ?_)
  clear hba q0 q1 q2 q3 q4 q5 q6 q7 q8 q9 q10 q11 q12 q13 q14 q15 q16
  clear hK K
  (try simp only [Act.put, List.getElem_toArray, List.getElem_cons_zero, List.getElem_cons_succ, Array.getInternal_eq_getElem, List.setIfInBounds_toArray, List.set_cons_zero, List.set_cons_succ])
  refine wpAnyH_ready (rs := [31]) (by kernel_rfl) (by simp) ?_
  refine AllReadyH.cons rfl (fun K hK => ?_) AllReadyH.nil
  go_simp
  refine (HRN.out _ (chain HB9.out hHeld.2)).mono ?_
  rintro e wa3 ⟨rfl, hba⟩
  obtain ⟨q0, q1, q2, q3, q4, q5, q6, q7, q8, q9, q10, q11, q12, q13, q14, q15, q16⟩ := hHeld.1
  refine hK.out _ _ ⟨⟨kc hba q0, kc hba q1, kc hba q2, kc hba q3, kc hba q4, kc hba q5, kc hba q6, kc hba q7, kc hba q8, kc hba q9, kc hba q10, kc hba q11, kc hba q12, kc hba q13, kc hba q14, kc hba q15, kc hba q16⟩, chain hHeld.2 hba⟩ (fun hHeld => ?_)
  clear hba q0 q1 q2 q3 q4 q5 q6 q7 q8 q9 q10 q11 q12 q13 q14 q15 q16
  clear hK K
  (try simp only [Act.put, List.getElem_toArray, List.getElem_cons_zero, List.getElem_cons_succ, Array.getInternal_eq_getElem, List.setIfInBounds_toArray, List.set_cons_zero, List.set_cons_succ])
  refine wpAnyH_take (i := 32) (v := ?_) rfl (by kernel_rfl) (by kernel_rfl) (by kernel_rfl) (fun _ _ _ h => h) (Or.inl ⟨by rfl, ?_⟩) (by assumption) ?_
  rotate_left
  · intro w hSw; (try dsimp only at hSw); go_simp; (try with_reducible rfl)
  (try simp only [Act.put, List.getElem_toArray, List.getElem_cons_zero, List.getElem_cons_succ, Array.getInternal_eq_getElem, List.setIfInBounds_toArray, List.set_cons_zero, List.set_cons_succ])
  refine wpAnyH_take (i := 33) (v := ?_) rfl (by kernel_rfl) (by kernel_rfl) (by kernel_rfl) (fun _ _ _ h => h) (Or.inl ⟨by rfl, ?_⟩) (by assumption) ?_
  rotate_left
  · intro w hSw; (try dsimp only at hSw); go_simp; (try with_reducible rfl)
  (try simp only [Act.put, List.getElem_toArray, List.getElem_cons_zero, List.getElem_cons_succ, Array.getInternal_eq_getElem, List.setIfInBounds_toArray, List.set_cons_zero, List.set_cons_succ])
  refine wpAnyH_take (i := 34) (v := ?_) rfl (by kernel_rfl) (by kernel_rfl) (by kernel_rfl) (fun _ _ _ h => h) (Or.inl ⟨by rfl, ?_⟩) (by assumption) ?_
  rotate_left
  · intro w hSw; (try dsimp only at hSw); go_simp; (try with_reducible rfl)
  (try simp only [Act.put, List.getElem_toArray, List.getElem_cons_zero, List.getElem_cons_succ, Array.getInternal_eq_getElem, List.setIfInBounds_toArray, List.set_cons_zero, List.set_cons_succ])
  refine wpAnyH_take (i := 35) (v := ?_) rfl (by kernel_rfl) (by kernel_rfl) (by kernel_rfl) (fun _ _ _ h => h) (Or.inl ⟨by rfl, ?_⟩) (by assumption) ?_
  rotate_left
  · intro w hSw; (try dsimp only at hSw); go_simp; (try with_reducible rfl)
  (try simp only [Act.put, List.getElem_toArray, List.getElem_cons_zero, List.getElem_cons_succ, Array.getInternal_eq_getElem, List.setIfInBounds_toArray, List.set_cons_zero, List.set_cons_succ])
  refine wpAnyH_take (i := 36) (v := ?_) rfl (by kernel_rfl) (by kernel_rfl) (by kernel_rfl) (fun _ _ _ h => h) (Or.inl ⟨by rfl, ?_⟩) (by assumption) ?_
  rotate_left
  · intro w hSw; (try dsimp only at hSw); go_simp; (try with_reducible rfl)
  (try simp only [Act.put, List.getElem_toArray, List.getElem_cons_zero, List.getElem_cons_succ, Array.getInternal_eq_getElem, List.setIfInBounds_toArray, List.set_cons_zero, List.set_cons_succ])
  refine wpAnyH_take (i := 38) (v := ?_) rfl (by kernel_rfl) (by kernel_rfl) (by kernel_rfl) (fun _ _ _ h => h) (Or.inl ⟨by rfl, ?_⟩) (by assumption) ?_
  rotate_left
  · intro w hSw; (try dsimp only at hSw); go_simp; (try with_reducible rfl)
  (try simp only [Act.put, List.getElem_toArray, List.getElem_cons_zero, List.getElem_cons_succ, Array.getInternal_eq_getElem, List.setIfInBounds_toArray, List.set_cons_zero, List.set_cons_succ])
  refine wpAnyH_take (i := 39) (v := ?_) rfl (by kernel_rfl) (by kernel_rfl) (by kernel_rfl) (fun _ _ _ h => h) (Or.inl ⟨by rfl, ?_⟩) (by assumption) ?_
  rotate_left
  · intro w hSw; (try dsimp only at hSw); go_simp; (try with_reducible rfl)
  (try simp only [Act.put, List.getElem_toArray, List.getElem_cons_zero, List.getElem_cons_succ, Array.getInternal_eq_getElem, List.setIfInBounds_toArray, List.set_cons_zero, List.set_cons_succ])
  refine wpAnyH_ready (rs := [37]) (by kernel_rfl) (by simp) ?_
  refine AllReadyH.cons rfl (fun K hK => ?_) AllReadyH.nil
  go_simp
  refine (HIn.out _ (chain HB9.out hHeld.2)).mono ?_
  rintro e wa4 ⟨u4, rfl, hp4, hba⟩
  have HX4 := Lib.hid hp4
  clear hp4
  obtain ⟨q0, q1, q2, q3, q4, q5, q6, q7, q8, q9, q10, q11, q12, q13, q14, q15, q16⟩ := hHeld.1
  refine hK.out _ _ ⟨⟨kc hba q0, kc hba q1, kc hba q2, kc hba q3, kc hba q4, kc hba q5, kc hba q6, kc hba q7, kc hba q8, kc hba q9, kc hba q10, kc hba q11, kc hba q12, kc hba q13, kc hba q14, kc hba q15, kc hba q16⟩, chain hHeld.2 hba⟩ (fun hHeld => ?_)
  clear hba q0 q1 q2 q3 q4 q5 q6 q7 q8 q9 q10 q11 q12 q13 q14 q15 q16
  clear hK K
  (try simp only [Act.put, List.getElem_toArray, List.getElem_cons_zero, List.getElem_cons_succ, Array.getInternal_eq_getElem, List.setIfInBounds_toArray, List.set_cons_zero, List.set_cons_succ])
  refine wpAnyH_ready (rs := [40]) (by kernel_rfl) (by simp) ?_
  refine AllReadyH.cons rfl (fun K hK => ?_) AllReadyH.nil
  go_simp
  refine (HRI.out _ (chain HB9.out hHeld.2)).mono ?_
  rintro e wa5 ⟨u5, rfl, hp5, hba⟩
  have HX5 := Lib.hid hp5
  clear hp5
  replace HX4 := Lib.hid ((HX4.out.below hba).more hba.size)
  obtain ⟨q0, q1, q2, q3, q4, q5, q6, q7, q8, q9, q10, q11, q12, q13, q14, q15, q16⟩ := hHeld.1
  refine hK.out _ _ ⟨⟨kc hba q0, kc hba q1, kc hba q2, kc hba q3, kc hba q4, kc hba q5, kc hba q6, kc hba q7, kc hba q8, kc hba q9, kc hba q10, kc hba q11, kc hba q12, kc hba q13, kc hba q14, kc hba q15, kc hba q16⟩, chain hHeld.2 hba⟩ (fun hHeld => ?_)
  clear hba q0 q1 q2 q3 q4 q5 q6 q7 q8 q9 q10 q11 q12 q13 q14 q15 q16
  clear hK K
  (try simp only [Act.put, List.getElem_toArray, List.getElem_cons_zero, List.getElem_cons_succ, Array.getInternal_eq_getElem, List.setIfInBounds_toArray, List.set_cons_zero, List.set_cons_succ])
  refine wpAnyH_ready (rs := [41]) (by kernel_rfl) (by simp) ?_
  refine AllReadyH.cons rfl (fun K hK => ?_) AllReadyH.nil
  go_simp
  refine (rsame_any _ HX4.out HX5.out (Nat.le_refl _)).mono ?_
  rintro e wa6 ⟨rfl, hba⟩
  obtain ⟨q0, q1, q2, q3, q4, q5, q6, q7, q8, q9, q10, q11, q12, q13, q14, q15, q16⟩ := hHeld.1
  refine hK.out _ _ ⟨⟨kc hba q0, kc hba q1, kc hba q2, kc hba q3, kc hba q4, kc hba q5, kc hba q6, kc hba q7, kc hba q8, kc hba q9, kc hba q10, kc hba q11, kc hba q12, kc hba q13, kc hba q14, kc hba q15, kc hba q16⟩, chain hHeld.2 hba⟩ (fun hHeld => ?_)
  clear hba q0 q1 q2 q3 q4 q5 q6 q7 q8 q9 q10 q11 q12 q13 q14 q15 q16
  clear hK K
  (try simp only [Act.put, List.getElem_toArray, List.getElem_cons_zero, List.getElem_cons_succ, Array.getInternal_eq_getElem, List.setIfInBounds_toArray, List.set_cons_zero, List.set_cons_succ])
  refine wpAnyH_take (i := 42) (v := ?_) rfl (by kernel_rfl) (by kernel_rfl) (by kernel_rfl) (fun _ _ _ h => h) (Or.inl ⟨by rfl, ?_⟩) (by assumption) ?_
  rotate_left
  · intro w hSw; (try dsimp only at hSw); go_simp; (try with_reducible rfl)
  (try simp only [Act.put, List.getElem_toArray, List.getElem_cons_zero, List.getElem_cons_succ, Array.getInternal_eq_getElem, List.setIfInBounds_toArray, List.set_cons_zero, List.set_cons_succ])
  refine wpAnyH_take (i := 43) (v := ?_) rfl (by kernel_rfl) (by kernel_rfl) (by kernel_rfl) (fun _ _ _ h => h) (Or.inl ⟨by rfl, ?_⟩) (by assumption) ?_
  rotate_left
  · intro w hSw; (try dsimp only at hSw); go_simp; (try with_reducible rfl)
  (try simp only [Act.put, List.getElem_toArray, List.getElem_cons_zero, List.getElem_cons_succ, Array.getInternal_eq_getElem, List.setIfInBounds_toArray, List.set_cons_zero, List.set_cons_succ])
  refine wpAnyH_take (i := 44) (v := ?_) rfl (by kernel_rfl) (by kernel_rfl) (by kernel_rfl) (fun _ _ _ h => h) (Or.inl ⟨by rfl, ?_⟩) (by assumption) ?_
  rotate_left
  · intro w hSw; (try dsimp only at hSw); go_simp; (try with_reducible rfl)
  (try simp only [Act.put, List.getElem_toArray, List.getElem_cons_zero, List.getElem_cons_succ, Array.getInternal_eq_getElem, List.setIfInBounds_toArray, List.set_cons_zero, List.set_cons_succ])
  refine wpAnyH_take (i := 45) (v := ?_) rfl (by kernel_rfl) (by kernel_rfl) (by kernel_rfl) (fun _ _ _ h => h) (Or.inl ⟨by rfl, ?_⟩) (by assumption) ?_
  rotate_left
  · intro w hSw; (try dsimp only at hSw); go_simp; (try with_reducible rfl)
  (try simp only [Act.put, List.getElem_toArray, List.getElem_cons_zero, List.getElem_cons_succ, Array.getInternal_eq_getElem, List.setIfInBounds_toArray, List.set_cons_zero, List.set_cons_succ])
  refine wpAnyH_take (i := 47) (v := ?_) rfl (by kernel_rfl) (by kernel_rfl) (by kernel_rfl) (fun _ _ _ h => h) (Or.inl ⟨by rfl, ?_⟩) (by assumption) ?_
  rotate_left
  · intro w hSw; (try dsimp only at hSw); go_simp; (try with_reducible rfl)
  (try simp only [Act.put, List.getElem_toArray, List.getElem_cons_zero, List.getElem_cons_succ, Array.getInternal_eq_getElem, List.setIfInBounds_toArray, List.set_cons_zero, List.set_cons_succ])
  refine wpAnyH_take (i := 48) (v := ?_) rfl (by kernel_rfl) (by kernel_rfl) (by kernel_rfl) (fun _ _ _ h => h) (Or.inl ⟨by rfl, ?_⟩) (by assumption) ?_
  rotate_left
  · intro w hSw; (try dsimp only at hSw); go_simp; (try with_reducible rfl)
  (try simp only [Act.put, List.getElem_toArray, List.getElem_cons_zero, List.getElem_cons_succ, Array.getInternal_eq_getElem, List.setIfInBounds_toArray, List.set_cons_zero, List.set_cons_succ])
  refine wpAnyH_ready (rs := [46]) (by kernel_rfl) (by simp) ?_
  refine AllReadyH.cons rfl (fun K hK => ?_) AllReadyH.nil
  go_simp
  refine (HFe.out _ (chain HB9.out hHeld.2)).mono ?_
  rintro e wa7 ⟨u7, rfl, hp7, hba⟩
  have HX7 := Lib.hid hp7
  clear hp7
  obtain ⟨q0, q1, q2, q3, q4, q5, q6, q7, q8, q9, q10, q11, q12, q13, q14, q15, q16⟩ := hHeld.1
  refine hK.out _ _ ⟨⟨kc hba q0, kc hba q1, kc hba q2, kc hba q3, kc hba q4, kc hba q5, kc hba q6, kc hba q7, kc hba q8, kc hba q9, kc hba q10, kc hba q11, kc hba q12, kc hba q13, kc hba q14, kc hba q15, kc hba q16⟩, chain hHeld.2 hba⟩ (fun hHeld => ?_)
  clear hba q0 q1 q2 q3 q4 q5 q6 q7 q8 q9 q10 q11 q12 q13 q14 q15 q16
  clear hK K
  (try simp only [Act.put, List.getElem_toArray, List.getElem_cons_zero, List.getElem_cons_succ, Array.getInternal_eq_getElem, List.setIfInBounds_toArray, List.set_cons_zero, List.set_cons_succ])
  refine wpAnyH_ready (rs := [49]) (by kernel_rfl) (by simp) ?_
  refine AllReadyH.cons rfl (fun K hK => ?_) AllReadyH.nil
  go_simp
  refine (HRF.out _ (chain HB9.out hHeld.2)).mono ?_
  rintro e wa8 ⟨u8, rfl, hp8, hba⟩
  have HX8 := Lib.hid hp8
  clear hp8
  replace HX7 := Lib.hid ((HX7.out.below hba).more hba.size)
  obtain ⟨q0, q1, q2, q3, q4, q5, q6, q7, q8, q9, q10, q11, q12, q13, q14, q15, q16⟩ := hHeld.1
  refine hK.out _ _ ⟨⟨kc hba q0, kc hba q1, kc hba q2, kc hba q3, kc hba q4, kc hba q5, kc hba q6, kc hba q7, kc hba q8, kc hba q9, kc hba q10, kc hba q11, kc hba q12, kc hba q13, kc hba q14, kc hba q15, kc hba q16⟩, chain hHeld.2 hba⟩ (fun hHeld => ?_)
  clear hba q0 q1 q2 q3 q4 q5 q6 q7 q8 q9 q10 q11 q12 q13 q14 q15 q16
  clear hK K
  (try simp only [Act.put, List.getElem_toArray, List.getElem_cons_zero, List.getElem_cons_succ, Array.getInternal_eq_getElem, List.setIfInBounds_toArray, List.set_cons_zero, List.set_cons_succ])
  refine wpAnyH_ready (rs := [50]) (by kernel_rfl) (by simp) ?_
  refine AllReadyH.cons rfl (fun K hK => ?_) AllReadyH.nil
  go_simp
  refine (csame_any _ HX7.out HX8.out (Nat.le_refl _)).mono ?_
  rintro e wa9 ⟨⟨cb, rfl, hcb⟩, hba⟩
  obtain rfl : cb = true := hcb.2 rfl
  obtain ⟨q0, q1, q2, q3, q4, q5, q6, q7, q8, q9, q10, q11, q12, q13, q14, q15, q16⟩ := hHeld.1
  refine hK.out _ _ ⟨⟨kc hba q0, kc hba q1, kc hba q2, kc hba q3, kc hba q4, kc hba q5, kc hba q6, kc hba q7, kc hba q8, kc hba q9, kc hba q10, kc hba q11, kc hba q12, kc hba q13, kc hba q14, kc hba q15, kc hba q16⟩, chain hHeld.2 hba⟩ (fun hHeld => ?_)
  clear hba q0 q1 q2 q3 q4 q5 q6 q7 q8 q9 q10 q11 q12 q13 q14 q15 q16
  clear hK K
  (try simp only [Act.put, List.getElem_toArray, List.getElem_cons_zero, List.getElem_cons_succ, Array.getInternal_eq_getElem, List.setIfInBounds_toArray, List.set_cons_zero, List.set_cons_succ])
  refine wpAnyH_take (i := 51) (v := ?_) rfl (by kernel_rfl) (by kernel_rfl) (by kernel_rfl) (fun _ _ _ h => h) (Or.inl ⟨by rfl, ?_⟩) (by assumption) ?_
  rotate_left
  · intro w hSw; (try dsimp only at hSw); go_simp; (try with_reducible rfl)
  (try simp only [Act.put, List.getElem_toArray, List.getElem_cons_zero, List.getElem_cons_succ, Array.getInternal_eq_getElem, List.setIfInBounds_toArray, List.set_cons_zero, List.set_cons_succ])
  refine wpAnyH_take (i := 52) (v := ?_) rfl (by kernel_rfl) (by kernel_rfl) (by kernel_rfl) (fun _ _ _ h => h) (Or.inl ⟨by rfl, ?_⟩) (by assumption) ?_
  rotate_left
  · intro w hSw; (try dsimp only at hSw); go_simp; (try with_reducible rfl)
  (try simp only [Act.put, List.getElem_toArray, List.getElem_cons_zero, List.getElem_cons_succ, Array.getInternal_eq_getElem, List.setIfInBounds_toArray, List.set_cons_zero, List.set_cons_succ])
  refine wpAnyH_take (i := 53) (v := ?_) rfl (by kernel_rfl) (by kernel_rfl) (by kernel_rfl) (fun _ _ _ h => h) (Or.inl ⟨by rfl, ?_⟩) (by assumption) ?_
  rotate_left
  · intro w hSw; (try dsimp only at hSw); go_simp; (try with_reducible rfl)
  (try simp only [Act.put, List.getElem_toArray, List.getElem_cons_zero, List.getElem_cons_succ, Array.getInternal_eq_getElem, List.setIfInBounds_toArray, List.set_cons_zero, List.set_cons_succ])
  refine wpAnyH_take (i := 54) (v := ?_) rfl (by kernel_rfl) (by kernel_rfl) (by kernel_rfl) (fun _ _ _ h => h) (Or.inl ⟨by rfl, ?_⟩) (by assumption) ?_
  rotate_left
  · intro w hSw; (try dsimp only at hSw); go_simp; (try with_reducible rfl)
  (try simp only [Act.put, List.getElem_toArray, List.getElem_cons_zero, List.getElem_cons_succ, Array.getInternal_eq_getElem, List.setIfInBounds_toArray, List.set_cons_zero, List.set_cons_succ])
  refine wpAnyH_ready (rs := [55]) (by kernel_rfl) (by simp) ?_
  refine AllReadyH.cons rfl (fun K hK => ?_) AllReadyH.nil
  go_simp
  refine (csame_any _ ((HF6.out.below hHeld.2).more hHeld.2.size) ((HF8.out.below hHeld.2).more hHeld.2.size) (Nat.le_refl _)).mono ?_
  rintro e wa10 ⟨⟨cb, rfl, hcb⟩, hba⟩
  obtain rfl : cb = true := hcb.2 rfl
  obtain ⟨q0, q1, q2, q3, q4, q5, q6, q7, q8, q9, q10, q11, q12, q13, q14, q15, q16⟩ := hHeld.1
  refine hK.out _ _ ⟨⟨kc hba q0, kc hba q1, kc hba q2, kc hba q3, kc hba q4, kc hba q5, kc hba q6, kc hba q7, kc hba q8, kc hba q9, kc hba q10, kc hba q11, kc hba q12, kc hba q13, kc hba q14, kc hba q15, kc hba q16⟩, chain hHeld.2 hba⟩ (fun hHeld => ?_)
  clear hba q0 q1 q2 q3 q4 q5 q6 q7 q8 q9 q10 q11 q12 q13 q14 q15 q16
  clear hK K
  (try simp only [Act.put, List.getElem_toArray, List.getElem_cons_zero, List.getElem_cons_succ, Array.getInternal_eq_getElem, List.setIfInBounds_toArray, List.set_cons_zero, List.set_cons_succ])
  refine wpAnyH_take (i := 56) (v := ?_) rfl (by kernel_rfl) (by kernel_rfl) (by kernel_rfl) (fun _ _ _ h => h) (Or.inl ⟨by rfl, ?_⟩) (by assumption) ?_
  rotate_left
  · intro w hSw; (try dsimp only at hSw); go_simp; (try with_reducible rfl)
  (try simp only [Act.put, List.getElem_toArray, List.getElem_cons_zero, List.getElem_cons_succ, Array.getInternal_eq_getElem, List.setIfInBounds_toArray, List.set_cons_zero, List.set_cons_succ])
  refine wpAnyH_take (i := 57) (v := ?_) rfl (by kernel_rfl) (by kernel_rfl) (by kernel_rfl) (fun _ _ _ h => h) (Or.inl ⟨by rfl, ?_⟩) (by assumption) ?_
  rotate_left
  · intro w hSw; (try dsimp only at hSw); go_simp; (try with_reducible rfl)
  (try simp only [Act.put, List.getElem_toArray, List.getElem_cons_zero, List.getElem_cons_succ, Array.getInternal_eq_getElem, List.setIfInBounds_toArray, List.set_cons_zero, List.set_cons_succ])
  refine wpAnyH_take (i := 58) (v := ?_) rfl (by kernel_rfl) (by kernel_rfl) (by kernel_rfl) (fun _ _ _ h => h) (Or.inl ⟨by rfl, ?_⟩) (by assumption) ?_
  rotate_left
  · intro w hSw; (try dsimp only at hSw); go_simp; (try with_reducible rfl)
  (try simp only [Act.put, List.getElem_toArray, List.getElem_cons_zero, List.getElem_cons_succ, Array.getInternal_eq_getElem, List.setIfInBounds_toArray, List.set_cons_zero, List.set_cons_succ])
  refine wpAnyH_take (i := 59) (v := ?_) rfl (by kernel_rfl) (by kernel_rfl) (by kernel_rfl) (fun _ _ _ h => h) (Or.inl ⟨by rfl, ?_⟩) (by assumption) ?_
  rotate_left
  · intro w hSw; (try dsimp only at hSw); go_simp; (try with_reducible rfl)
  (try simp only [Act.put, List.getElem_toArray, List.getElem_cons_zero, List.getElem_cons_succ, Array.getInternal_eq_getElem, List.setIfInBounds_toArray, List.set_cons_zero, List.set_cons_succ])
  refine wpAnyH_take (i := 60) (v := ?_) rfl (by kernel_rfl) (by kernel_rfl) (by kernel_rfl) (fun _ _ _ h => h) (Or.inl ⟨by rfl, ?_⟩) (by assumption) ?_
  rotate_left
  · intro w hSw; (try dsimp only at hSw); go_simp; (try with_reducible rfl)
  (try simp only [Act.put, List.getElem_toArray, List.getElem_cons_zero, List.getElem_cons_succ, Array.getInternal_eq_getElem, List.setIfInBounds_toArray, List.set_cons_zero, List.set_cons_succ])
  refine wpAnyH_take (i := 61) (v := ?_) rfl (by kernel_rfl) (by kernel_rfl) (by kernel_rfl) (fun _ _ _ h => h) (Or.inl ⟨by rfl, ?_⟩) (by assumption) ?_
  rotate_left
  · intro w hSw; (try dsimp only at hSw); go_simp; (try with_reducible rfl)
  (try simp only [Act.put, List.getElem_toArray, List.getElem_cons_zero, List.getElem_cons_succ, Array.getInternal_eq_getElem, List.setIfInBounds_toArray, List.set_cons_zero, List.set_cons_succ])
  refine wpAnyH_ready (rs := [62]) (by kernel_rfl) (by simp) ?_
  refine AllReadyH.cons rfl (fun K hK => ?_) AllReadyH.nil
  go_simp
  refine hK.out _ _ hHeld (fun hHeld => ?_)
  clear hK K
  (try simp only [Act.put, List.getElem_toArray, List.getElem_cons_zero, List.getElem_cons_succ, Array.getInternal_eq_getElem, List.setIfInBounds_toArray, List.set_cons_zero, List.set_cons_succ])
  refine wpAnyH_done (by kernel_rfl) ?_ _
  have HBF := Lib.hid (chain HB9.out hHeld.2)
  clear hHeld
  go_wp2
  go_ret
  exact ⟨rfl, HBF.out⟩
end Go.Proofs.Ytaelfjphgdlbcaa
