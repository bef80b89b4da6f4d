/-
  ValidFirst, as a walk over any world that holds the registers and the type of errors: it returns true.
-/
import Derived.Test.YtclhgmopphhalaaGreatDoorVHd
import Derived.Test.YtclhgmopphhalaaGreatDoorGreat
import Derived.Test.YtclhgmopphhalaaGreatDoorVLabM
import Derived.Test.YtclhgmopphhalaaGreatDoorLnOwn
import Derived.Test.YtclhgmopphhalaaGreatDoorAppS
import Derived.Test.YtclhgmopphhalaaGreatDoorThStep
import Derived.Deep.RegionHeld3
namespace Go.Proofs.YtclhgmopphhalaaGreatDoor
open Go.RowKit
set_option linter.unusedVariables false
set_option linter.unusedSimpArgs false
open WordM (L)
open VM

def VfK (F : Fl) (vi vt vc : Value) (w : World) (wr : World) : Prop := Below w.heap.size w wr ∧ FlBox wr w.heap.size ⟨F.name.toArray⟩ vi vt vc F.all
def VfSz (x : OpsM.Ln) : Prop := x.reg.length ≤ 1000 ∧ x.loc.length ≤ 1000 ∧ x.label.length ≤ 1000
def Vf1 (F : Fl) (ms : List OpsM.Ln) (vi vt vc : Value) (w : World) (i : Value) (wr : World) : Prop :=
  ∃ k : Nat, k ≤ ms.length ∧ i = .int .i64 k ∧ (∀ j (h : j < ms.length), j < k → VfSz ms[j]) ∧ VfK F vi vt vc w wr
theorem info_line : (Tryz.prog.info? 39).map (fun i => (i.zero, i.size, i.bytes)) = some (some (.agg #[.int .i64 0, .string ⟨#[]⟩, .string ⟨#[]⟩, .string ⟨#[]⟩, .int .i64 0]), 5, 64) := by kernel_rfl
theorem info_thread : (Tryz.prog.info? 37).map (fun i => (i.zero, i.size, i.bytes)) = some (some (.agg #[.slice none 0 0]), 1, 24) := by kernel_rfl
set_option maxHeartbeats 8000000 in
set_option maxRecDepth 100000 in
theorem vfirst_law {v vm : Value} {F : Fl} {ms : List OpsM.Ln} (w : World) (hr : Regs w) (hg : EA.ErrG w) (hv : FlV w.heap.size w v F) (hi : IntsOk F) (hms : Lns w.heap.size w vm ms) (hmn : NilZ vm) :
    Calls Tryz.prog 7 #[v, vm] w fun e w' => e = .returned (.bool true) ∧ Below w.heap.size w w' := by
  obtain ⟨vi, vt, vc, rfl, hm⟩ := hv
  have HM := Lib.hid hm
  have HR := Lib.hid hr
  have HG := Lib.hid hg
  have HI := Lib.hid hi
  have HV : ∀ W, Below w.heap.size w W → FlV W.heap.size W (flv ⟨F.name.toArray⟩ vi vt vc F.all) F := fun W hW => ⟨vi, vt, vc, rfl, (HM.out.below hW).more hW.size⟩
  have HHd := Lib.hid (fun W (hW : Below w.heap.size w W) => vhead_any W (HR.out.below hW) (HG.out.below hW))
  have HGr := Lib.hid (fun W (hW : Below w.heap.size w W) => vgreat_any W (HV W hW) (Nat.le_refl _))
  have HVC := Lib.hid (fun (ok : FlOk F) W (hW : Below w.heap.size w W) => check_any W (HR.out.below hW) (HG.out.below hW) (HV W hW) (Nat.le_refl _) ok)
  have HV1 := Lib.hid (fun (W : World) (u : Value) (G : Fl) (hW : Below w.heap.size w W) (hv : FlV W.heap.size W u G) (ok : FlOk G) => check_any W (HR.out.below hW) (HG.out.below hW) hv (Nat.le_refl _) ok)
  have HGL := Lib.hid (fun (x : OpsM.Ln) W => greatline_l x W)
  have HMS := Lib.hid hms
  obtain ⟨⟨A0, c0, rfl, -⟩, ⟨A2, c2, rfl, hb1, hb2, hb3⟩, ⟨A1, c1, rfl, -⟩⟩ := hm
  obtain ⟨Am, cm, rfl, hm1, hm2, hm3⟩ := hms
  have HMN := Lib.hid hmn
  unfold maxLen at hb2 hm2
  unfold flv at *
  clear HV hr hg hi hmn
  have hB0 := below_al (Below.refl w.heap.size w) (.cells #[.string ⟨F.name.toArray⟩, .slice A0 F.init.length c0, .slice A2 F.ths.length c2, .bool F.all, .slice A1 F.cond.length c1] 26)
  have hbx := FlBox.at (w := w) rfl ⟨F.name.toArray⟩ (.slice A0 F.init.length c0) (.slice A2 F.ths.length c2) (.slice A1 F.cond.length c1) F.all 26
  go_enter Tryz.func7, Tryz.ntmps7
  go_wp2_with fail
  refine (HHd.out _ hB0).mono ?_
  rintro e w1 ⟨rfl, hbb⟩
  have hB1 := chain hB0 hbb
  have hbx1 := Lib.hid (hbx.below hbb)
  obtain ⟨t0, t1, t2, t3, t4⟩ := hbx1.out
  clear hB0 hbx hbb
  go_wp2_with fail
  refine (HGr.out _ hB1).mono ?_
  rintro e w2 ⟨b, rfl, hsm, hbb⟩
  have hB2 := chain hB1 hbb
  have hbx2 := Lib.hid (hbx1.out.below hbb)
  clear t0 t1 t2 t3 t4
  obtain ⟨t0, t1, t2, t3, t4⟩ := hbx2.out
  clear hB1 hbx1 hbb
  cases b
  case true =>
    go_wp2
    go_ret
    exact ⟨rfl, hB2⟩
  have ok := (hsm rfl).ok HI.out
  have HSM := Lib.hid (hsm rfl)
  have HOK := Lib.hid ok
  replace HVC := Lib.hid (HVC.out ok)
  clear hsm ok HI HHd HGr
  by_cases hm100 : 100 < ms.length
  · have q : decide ((100 : Int) < (ms.length : Int)) = true := decide_eq_true (by omega)
    go_wp2
    go_ret
    exact ⟨rfl, hB2⟩
  have q100 : decide ((100 : Int) < (ms.length : Int)) = false := decide_eq_false (by omega)
  go_wp2
  go_loopw [6] (fun i wr => Vf1 F ms (.slice A0 F.init.length c0) (.slice A2 F.ths.length c2) (.slice A1 F.cond.length c1) w i wr) (fun i _ => ms.length - (intOf i).toNat)
  case atStart => exact ⟨0, Nat.zero_le _, rfl, fun j _ h => absurd h (Nat.not_lt_zero j), hB2, hbx2.out⟩
  case round =>
    clear hB2 hbx2 t0 t1 t2 t3 t4 q100
    obtain ⟨k, hk, rfl, hal, hB, hbx⟩ := hrel
    have HBX := Lib.hid hbx
    have HA := Lib.hid hal
    clear hbx hal
    by_cases hlt : k < ms.length
    · obtain ⟨bm, fm, rfl, hbm, hcm⟩ := hm3 (by omega)
      obtain ⟨z0, z1, z2, z3, z4⟩ := (hcm k hlt).below hB hbm
      obtain ⟨x, hx⟩ : ∃ x, x = ms[k] := ⟨_, rfl⟩
      rw [← hx] at z0 z1 z2 z3 z4
      have HX := Lib.hid hx
      clear hx hcm hm3
      go_wp2_with fail
      refine (HGL.out x _).mono ?_
      rintro e wa ⟨b, rfl, hsz, hbb⟩
      have hBa := chain hB hbb
      have HBXa := Lib.hid (HBX.out.below hbb)
      have HSZ := Lib.hid hsz
      clear z0 z1 z2 z3 z4 hsz hbb
      cases b
      · go_wp2
        go_roundw
        case rel =>
          refine ⟨k + 1, by omega, by go_num, fun j h hj => ?_, hBa, HBXa.out⟩
          by_cases e : j = k
          · subst e; rw [← HX.out]; exact HSZ.out (by first | rfl | trivial)
          · exact HA.out j h (by omega)
        case measure => simp [intOf]; omega
      · go_wp2
        go_ret
        exact ⟨rfl, hBa⟩
    · obtain rfl : ms.length = k := by omega
      have HSZ := Lib.hid (fun j (h : j < ms.length) => HA.out j h h)
      obtain ⟨t0, t1, t2, t3, t4⟩ := HBX.out
      obtain ⟨ck, hck⟩ : ∃ c, c = chk F := ⟨_, rfl⟩
      rw [← hck] at HVC
      obtain ⟨ca, cb, cc⟩ := ck
      clear HA HGL
      go_wp2_with fail
      refine (HVC.out _ hB).mono ?_
      rintro e w3 ⟨rfl, hbb⟩
      have hB3 := chain hB hbb
      have hbx3 := Lib.hid (HBX.out.below hbb)
      clear t0 t1 t2 t3 t4 hB HBX hbb HVC
      obtain ⟨t0, t1, t2, t3, t4⟩ := hbx3.out
      by_cases h0 : ca < 0
      · have q : decide (ca < 0) = true := decide_eq_true h0
        clear hck
        go_wp2
        go_ret
        exact ⟨rfl, hB3⟩
      have q0 : decide (ca < 0) = false := decide_eq_false h0
      by_cases hn : (F.ths.length : Int) ≤ ca
      · have q : decide ((F.ths.length : Int) ≤ ca) = true := decide_eq_true hn
        clear hck
        go_wp2
        go_ret
        exact ⟨rfl, hB3⟩
      have qn : decide ((F.ths.length : Int) ≤ ca) = false := decide_eq_false hn
      by_cases hz : cc = 0
      · have q : (cc == 0) = true := by simpa using hz
        clear hck
        go_wp2
        go_ret
        exact ⟨rfl, hB3⟩
      have qz : (cc == 0) = false := beq_eq_false_iff_ne.2 hz
      obtain ⟨hfr, t, i, rfl, rfl, htl, hall, hth, hcc⟩ := chk_line hck.symm hz (by omega) (by omega)
      have HMF := Lib.hid (fun more => first_more (F := F) more hfr htl hall hth)
      obtain ⟨hil, -, -⟩ := firstAt_some hth
      have HCC := Lib.hid hcc
      rw [getD_at _ _ _ htl] at hil
      have HGD := Lib.hid (getD_at F.ths t [] htl)
      clear hck hfr hall hth hcc h0 hn hz
      obtain ⟨b1, f1, rfl, hb1, hcl⟩ := hb3 (by omega)
      have HCL := Lib.hid hcl
      obtain ⟨vl, d0w, hLn⟩ := hcl t htl
      have hln := (HSM.out.ths t htl).1
      have HLS := Lib.hid (HSM.out.ths t htl).2
      have hn9 := HSM.out.n1
      obtain ⟨ls, hx⟩ : ∃ x, x = F.ths[t] := ⟨_, rfl⟩
      rw [← hx] at hLn hln HLS hil
      have HX := Lib.hid hx
      obtain ⟨A3, c3, rfl, he1, he2, he3⟩ := id hLn
      unfold maxLen at he2
      obtain ⟨b3, f3, rfl, hb3', hc3⟩ := he3 (by omega)
      have HC3 := Lib.hid hc3
      have HLn := Lib.hid hLn
      have d0 := (hB3.cell (p := ⟨b1, f1 + t, none⟩) hb1).trans d0w
      have qi0 : decide ((i : Int) < 0) = false := decide_eq_false (by omega)
      have qi1 : decide ((ls.length : Int) ≤ (i : Int)) = false := decide_eq_false (by omega)
      clear hx hcl hb3 hLn he3 d0w hc3
      obtain ⟨i1, hi1, hy0, hy1, hy2⟩ := info_parts info_thread
      obtain ⟨vs, hvl, hvc, hv1, hvL⟩ := cells_of_ths HCL.out
      have hBg := below_al hB3 (.cells #[.string ⟨F.name.toArray⟩, .slice A0 F.init.length c0, .slice (some ⟨b1, f1, none⟩) F.ths.length c2, .bool F.all, .slice A1 F.cond.length c1] 26)
      have HB2 := Lib.hid (below_al hBg (.cells #[] 37))
      have hL2 : Below w3.heap.size w3 ((w3.alloc (.cells #[.string ⟨F.name.toArray⟩, .slice A0 F.init.length c0, .slice (some ⟨b1, f1, none⟩) F.ths.length c2, .bool F.all, .slice A1 F.cond.length c1] 26)).alloc (.cells #[] 37)) := below_al (below_al (Below.refl w3.heap.size w3) (.cells #[.string ⟨F.name.toArray⟩, .slice A0 F.init.length c0, .slice (some ⟨b1, f1, none⟩) F.ths.length c2, .bool F.all, .slice A1 F.cond.length c1] 26)) (.cells #[] 37)
      have HVC := Lib.hid (fun (j : Nat) (u : Value) (h : vs[j]? = some u) => (show ((w3.alloc (.cells #[.string ⟨F.name.toArray⟩, .slice A0 F.init.length c0, .slice (some ⟨b1, f1, none⟩) F.ths.length c2, .bool F.all, .slice A1 F.cond.length c1] 26)).alloc (.cells #[] 37)).cell? ((⟨b1, f1, none⟩ : Addr).add j) = some u from by rw [Addr.add_lit]; exact (HB2.out.cell (p := ⟨b1, f1 + j, none⟩) hb1).trans (hvc j u h)))
      have hbx5 := hbx3.out.below hL2
      have hbg := FlBox.at (w := w3) rfl ⟨F.name.toArray⟩ (.slice A0 F.init.length c0) (.slice (some ⟨b1, f1, none⟩) F.ths.length c2) (.slice A1 F.cond.length c1) F.all 26
      have HBG := Lib.hid (hbg.below (below_al (Below.refl _ _) (.cells #[] 37)))
      have HFZ := Lib.hid (box_2 w3 #[.string ⟨F.name.toArray⟩, .slice A0 F.init.length c0, .slice (some ⟨b1, f1, none⟩) F.ths.length c2, .bool F.all, .slice A1 F.cond.length c1] 26 (.cells #[] 37) 2 rfl).2
      have HO2 := Lib.hid (show ((w3.alloc (.cells #[.string ⟨F.name.toArray⟩, .slice A0 F.init.length c0, .slice (some ⟨b1, f1, none⟩) F.ths.length c2, .bool F.all, .slice A1 F.cond.length c1] 26)).alloc (.cells #[] 37)).ownsRow w.heap.size 37 1 (.slice (some ⟨w3.heap.size + 1, 0, none⟩) 0 0) 0 [] from by
        have := World.ownsRow_lit (base := w.heap.size) (e := 37) (size := 1) (w3.alloc (.cells #[.string ⟨F.name.toArray⟩, .slice A0 F.init.length c0, .slice (some ⟨b1, f1, none⟩) F.ths.length c2, .bool F.all, .slice A1 F.cond.length c1] 26)) #[] 0 hBg.size (by decide) rfl
        simpa using this)
      have hs3 := hB3.size
      have HV1' := Lib.hid hv1
      have HVL := Lib.hid hvL
      have hg2 : ((w3.alloc (.cells #[.string ⟨F.name.toArray⟩, .slice A0 F.init.length c0, .slice (some ⟨b1, f1, none⟩) F.ths.length c2, .bool F.all, .slice A1 F.cond.length c1] 26)).alloc (.cells #[] 37)).heap.size = w3.heap.size + 1 + 1 := by simp
      clear hvc hBg hL2 hbg hv1 hvL
      obtain ⟨x0, x1, x2, x3, x4⟩ := hbx5
      go_wp2_with (at_builtin; refine Hid.out ?_)
      apply Lib.hid
      refine wpList_append_lies _ rfl _ _ 23 rfl w.heap.size 37 i1 (.agg #[.slice none 0 0]) 1 24 Tryz.underlying23 hi1 hy0 hy1 hy2 rfl (by decide) _ 0 [] rfl HO2.out ⟨b1, f1, none⟩ F.ths.length c2 vs rfl (by rw [hvl]; omega) HVC.out HV1'.out (by omega) (by unfold maxLen; omega) (by omega) (by rw [hg2]; omega) (w3.heap.size + 1 + 1) hg2 ?_
      intro gT capT w4 hown hgrow hat hlt4
      simp only [Nat.zero_add, List.nil_append] at hown
      obtain ⟨s2, sf, hB5, hbox5, hown5, hne5, hgl⟩ := th_step (T := .slice (some ⟨gT, 0, none⟩) F.ths.length capT) HB2.out hs3 (rb := w3.heap.size + 1) (by omega) (by rw [hg2]; omega) (by omega) HBG.out HFZ.out hown hgrow (by rw [hg2]; exact hat)
      obtain ⟨W5, hW5⟩ : ∃ W, W = w4.setCell ⟨w3.heap.size, 2, none⟩ (.slice (some ⟨gT, 0, none⟩) F.ths.length capT) := ⟨_, rfl⟩
      rw [← hW5] at hB5 hbox5 hown5
      go_wp2
      rw [← hW5]
      obtain ⟨gb, hgb⟩ : ∃ g, g = w3.heap.size := ⟨_, rfl⟩
      rw [← hgb] at hbox5 hne5 ⊢
      obtain ⟨i0, hi0, hz0, hz1, hz2⟩ := info_parts info_line
      have hgs : gb < W5.heap.size := lt_of_cell hbox5.1
      have hgTs : gT < W5.heap.size := (hown5.lt gT rfl).2
      have hws : w.heap.size ≤ W5.heap.size := hB5.size
      have HL6 := Lib.hid (below_al (below_drewN (Below.refl W5.heap.size W5) 1) (.cells #[] 39))
      have HO6 := Lib.hid (show (W5.drew.alloc (.cells #[] 39)).ownsRow W5.heap.size 39 5 (.slice (some ⟨W5.heap.size, 0, none⟩) 0 0) 0 [] from World.ownsRow_lit (base := W5.heap.size) (e := 39) (size := 5) W5.drew #[] 0 (Nat.le_refl _) (by decide) rfl)
      have HO5 := Lib.hid hown5
      have HBX5 := Lib.hid hbox5
      obtain ⟨p0, p1, p2, p3, p4⟩ := hbox5
      have hzt : (0 : Int) ≤ (t : Int) := by omega
      have hzt2 : (t : Int) < (F.ths.length : Int) := by omega
      have HLC := Lib.hid (fun W (hW : Below w.heap.size w W) => (fun (ad : Addr) (e : some (⟨b3, f3, none⟩ : Addr) = some ad) (j : Nat) (u : Value) (h : (lnsCs ls)[j]? = some u) => (show W.cell? (ad.add j) = some u from by
        injection e with e
        rw [← e, Addr.add_lit]
        exact cells_of_lns (fun j hj => (HC3.out j hj).below hW hb3') j u h)))
      have HMC := Lib.hid (fun W (hW : Below w.heap.size w W) => (fun (ad : Addr) (e : Am = some ad) (j : Nat) (u : Value) (h : (lnsCs ms)[j]? = some u) => (show W.cell? (ad.add j) = some u from by
        have hl0 : 0 < ms.length := by
          have h1 := (List.getElem?_eq_some_iff.1 h).1
          rw [lnsCs_len] at h1; omega
        obtain ⟨bm, fm, e2, hbm, hcm⟩ := hm3 hl0
        rw [e2] at e
        injection e with e
        rw [← e, Addr.add_lit]
        exact cells_of_lns (fun j hj => (hcm j hj).below hW hbm) j u h)))
      have HMZ := Lib.hid (fun (e : Am = none) => (show ms.length = 0 ∧ cm = 0 from ⟨by
        by_cases hl0 : 0 < ms.length
        · obtain ⟨bm, fm, e2, _⟩ := hm3 hl0
          rw [e2] at e; cases e
        · omega, HMN.out _ _ (by rw [e])⟩))
      clear x0 x1 x2 x3 x4 t0 t1 t2 t3 t4 d0 hm3 hbx3 hown hgrow hat hlt4 s2 sf hW5 hgb hi1 hy0 hy1 hy2 HO2 HVC HBG HFZ HB2 hg2 HCL hs3
      refine wp_region_held_drew (S := (fun w' => w'.cell? ⟨gb, 2, none⟩ = some (.slice (some ⟨gT, 0, none⟩) F.ths.length capT) ∧ Below w.heap.size w w')) (by kernel_rfl) ⟨p2, below_drewN hB5 1⟩ (fun hHeld => ?_)
      refine wpAnyH_take (i := 0) (v := ?_) rfl (by kernel_rfl) (by kernel_rfl) (by kernel_rfl) (fun _ _ _ h => h) (Or.inl ⟨by rfl, ?_⟩) (by assumption) ?_
      rotate_left
      · intro w hSw; (try dsimp only at hSw); go_simp; (try with_reducible rfl)
      (try simp only [Act.put, List.getElem_toArray, List.getElem_cons_zero, List.getElem_cons_succ, Array.getInternal_eq_getElem, List.setIfInBounds_toArray, List.set_cons_zero, List.set_cons_succ])
      refine wpAnyH_take (i := 1) (v := ?_) rfl (by kernel_rfl) (by kernel_rfl) (by kernel_rfl) (fun _ _ _ h => h) (Or.inl ⟨by rfl, ?_⟩) (by assumption) ?_
      rotate_left
      · intro w hSw; (try dsimp only at hSw); go_simp; (try with_reducible rfl)
      (try simp only [Act.put, List.getElem_toArray, List.getElem_cons_zero, List.getElem_cons_succ, Array.getInternal_eq_getElem, List.setIfInBounds_toArray, List.set_cons_zero, List.set_cons_succ])
      refine wpAnyH_take (i := 2) (v := ?_) rfl (by kernel_rfl) (by kernel_rfl) (by kernel_rfl) (fun _ _ _ h => h) (Or.inl ⟨by rfl, ?_⟩) (by assumption) ?_
      rotate_left
      · intro w hSw; (try dsimp only at hSw); go_simp; (try with_reducible rfl)
      (try simp only [Act.put, List.getElem_toArray, List.getElem_cons_zero, List.getElem_cons_succ, Array.getInternal_eq_getElem, List.setIfInBounds_toArray, List.set_cons_zero, List.set_cons_succ])
      refine wpAnyH_take (i := 4) (v := ?_) rfl (by kernel_rfl) (by kernel_rfl) (by kernel_rfl) (fun _ _ _ h => h) (Or.inl ⟨by rfl, ?_⟩) (by assumption) ?_
      rotate_left
      · intro w hSw; (try dsimp only at hSw); go_simp; (try with_reducible rfl)
      (try simp only [Act.put, List.getElem_toArray, List.getElem_cons_zero, List.getElem_cons_succ, Array.getInternal_eq_getElem, List.setIfInBounds_toArray, List.set_cons_zero, List.set_cons_succ])
      refine wpAnyH_take (i := 6) (v := ?_) rfl (by kernel_rfl) (by kernel_rfl) (by kernel_rfl) (fun _ _ _ h => h) (Or.inl ⟨by rfl, ?_⟩) (by assumption) ?_
      rotate_left
      · intro w hSw; (try dsimp only at hSw); go_simp; (try with_reducible rfl)
      (try simp only [Act.put, List.getElem_toArray, List.getElem_cons_zero, List.getElem_cons_succ, Array.getInternal_eq_getElem, List.setIfInBounds_toArray, List.set_cons_zero, List.set_cons_succ])
      refine wpAnyH_ready (rs := [3]) (by kernel_rfl) (by simp) ?_
      refine AllReadyH.cons rfl (fun K hK => ?_) AllReadyH.nil
      go_simp
      refine hK.out _ _ ⟨kc (below_al (below_drewN (Below.refl W5.heap.size W5) 1) _) p2, chain hB5 HL6.out⟩ (fun hHeld => ?_)
      clear hK K
      (try simp only [Act.put, List.getElem_toArray, List.getElem_cons_zero, List.getElem_cons_succ, Array.getInternal_eq_getElem, List.setIfInBounds_toArray, List.set_cons_zero, List.set_cons_succ])
      refine wpAnyH_ready (rs := [5]) (by kernel_rfl) (by simp) ?_
      refine AllReadyH.cons rfl (fun K hK => ?_) AllReadyH.nil
      refine step_append_src (by rfl) _ _ _ (by rfl) W5.heap.size 39 i0 (.agg #[.int .i64 0, .string ⟨#[]⟩, .string ⟨#[]⟩, .string ⟨#[]⟩, .int .i64 0]) 5 64 Tryz.underlying35 hi0 hz0 hz1 hz2 (by rfl) (by decide) _ 0 [] (by rfl) HO6.out (some ⟨b3, f3, none⟩) ls.length c3 (lnsCs ls) (by rfl) (lnsCs_len ls) (fun c => (by cases c)) (HLC.out _ (chain hB5 HL6.out)) (lnsCs_one ls) (by unfold maxLen; omega) (by omega) HL6.out.size (fun v1 w7 hown7 hg7 => ?_)
      simp only [Nat.zero_add, List.nil_append] at hown7
      have HL7 := Lib.hid (below_append HL6.out HO6.out (Nat.le_refl _) HL6.out.size hg7)
      have HO7 := Lib.hid hown7
      clear hown7 hg7 HO6 HL6
      refine hK.out _ _ ⟨kc HL7.out p2, chain hB5 HL7.out⟩ (fun hHeld => ?_)
      clear hK K
      (try simp only [Act.put, List.getElem_toArray, List.getElem_cons_zero, List.getElem_cons_succ, Array.getInternal_eq_getElem, List.setIfInBounds_toArray, List.set_cons_zero, List.set_cons_succ])
      refine wpAnyH_ready (rs := [7]) (by kernel_rfl) (by simp) ?_
      refine AllReadyH.cons rfl (fun K hK => ?_) AllReadyH.nil
      refine step_append_src (by rfl) _ _ _ (by rfl) W5.heap.size 39 i0 (.agg #[.int .i64 0, .string ⟨#[]⟩, .string ⟨#[]⟩, .string ⟨#[]⟩, .int .i64 0]) 5 64 Tryz.underlying35 hi0 hz0 hz1 hz2 (by rfl) (by decide) _ ls.length (lnsCs ls) (by rfl) HO7.out Am ms.length cm (lnsCs ms) (by rfl) (lnsCs_len ms) HMZ.out (HMC.out _ (chain hB5 HL7.out)) (lnsCs_one ms) (by unfold maxLen; omega) (by omega) HL7.out.size (fun v2 w8 hown8 hg8 => ?_)
      rw [← lnsCs_app] at hown8
      have HL8 := Lib.hid (below_append HL7.out HO7.out (Nat.le_refl _) HL7.out.size hg8)
      obtain ⟨A8, c8, rfl⟩ := own_slice hown8
      have HO8 := Lib.hid hown8
      have hB8 := chain hB5 HL8.out
      have HT8 := Lib.hid (own_below HO5.out HL8.out)
      obtain ⟨old, hold⟩ : ∃ o, vs[t]? = some o := ⟨_, List.getElem?_eq_getElem (by omega)⟩
      have c9 : w8.cell? ⟨gT, t, none⟩ = some old := by rw [HT8.out.cellAt t (by omega)]; exact hold
      have f9 := HT8.out.frozenAt t
      clear hown8 hg8 HO7 HL7 hold
      refine hK.out _ _ ⟨kc HL8.out p2, hB8⟩ (fun hHeld => ?_)
      clear hK K
      (try simp only [Act.put, List.getElem_toArray, List.getElem_cons_zero, List.getElem_cons_succ, Array.getInternal_eq_getElem, List.setIfInBounds_toArray, List.set_cons_zero, List.set_cons_succ])
      refine wpAnyH_take (i := 8) (v := ?_) rfl (by kernel_rfl) (by kernel_rfl) (by kernel_rfl) (fun _ _ _ h => h) (Or.inl ⟨by rfl, ?_⟩) (by assumption) ?_
      rotate_left
      · intro w hSw; (try dsimp only at hSw); go_simp; (try with_reducible rfl)
      (try simp only [Act.put, List.getElem_toArray, List.getElem_cons_zero, List.getElem_cons_succ, Array.getInternal_eq_getElem, List.setIfInBounds_toArray, List.set_cons_zero, List.set_cons_succ])
      refine wpAnyH_take (i := 9) (v := ?_) rfl (by kernel_rfl) (by kernel_rfl) (by kernel_rfl) (fun _ _ _ h => h) (Or.inl ⟨by rfl, ?_⟩) (by assumption) ?_
      rotate_left
      · intro w hSw; (try dsimp only at hSw); go_simp; (try with_reducible rfl)
      (try simp only [Act.put, List.getElem_toArray, List.getElem_cons_zero, List.getElem_cons_succ, Array.getInternal_eq_getElem, List.setIfInBounds_toArray, List.set_cons_zero, List.set_cons_succ])
      refine wpAnyH_ready (rs := [10]) (by kernel_rfl) (by simp) ?_
      refine AllReadyH.cons rfl (fun K hK => ?_) AllReadyH.nil
      go_simp
      refine hK.out _ _ ⟨set_oth (.inl (Ne.symm hne5)) (kc HL8.out p2), hB8.setCell (p := ⟨gT, t, none⟩) hgl _⟩ (fun hHeld => ?_)
      clear hK K
      (try simp only [Act.put, List.getElem_toArray, List.getElem_cons_zero, List.getElem_cons_succ, Array.getInternal_eq_getElem, List.setIfInBounds_toArray, List.set_cons_zero, List.set_cons_succ])
      refine wpAnyH_done (by kernel_rfl) ?_ _
      have hl9 := (show (ls ++ ms).length ≤ 100000 from by rw [List.length_append]; omega)
      have HB9 := Lib.hid (hB8.setCell (p := ⟨gT, t, none⟩) hgl (.slice A8 (ls.length + ms.length) c8))
      have HX9 := Lib.hid (show FlBox (w8.setCell ⟨gT, t, none⟩ (.slice A8 (ls.length + ms.length) c8)) gb ⟨F.name.toArray⟩ (.slice A0 F.init.length c0) (.slice (some ⟨gT, 0, none⟩) F.ths.length capT) (.slice A1 F.cond.length c1) F.all from by
        obtain ⟨y0, y1, y2, y3, y4⟩ := HBX5.out.below HL8.out
        have hn := Ne.symm hne5
        exact ⟨set_oth (.inl hn) y0, set_oth (.inl hn) y1, set_oth (.inl hn) y2, set_oth (.inl hn) y3, set_oth (.inl hn) y4⟩)
      have HFL := Lib.hid (fl_set HB9.out HM.out hvl HVL.out (HT8.out.stored t (.slice A8 (ls.length + ms.length) c8)).1 htl (lns_of_own (ls := ls ++ ms) (by rw [List.length_append]; exact own_set HO8.out (fun k hk => by have := (HO8.out.lt k hk).1; omega)) (Nat.le_refl _)))
      have okG : FlOk (setT F t (ls ++ ms)) := setT_ok HOK.out ⟨hl9, fun l hl => by
        rcases List.mem_append.1 hl with h | h
        · have := HLS.out l h; omega
        · obtain ⟨j, hj, rfl⟩ := List.mem_iff_getElem.1 h
          have := HSZ.out j hj
          unfold VfSz at this; omega⟩
      have HC9 := Lib.hid (HV1.out _ _ _ HB9.out HFL.out okG)
      have HMX := HMF.out ms
      have HCX := HCC.out
      rw [HGD.out, ← HX.out] at HMX HCX
      obtain ⟨ck, hck⟩ : ∃ c, c = chk (setT F t (ls ++ ms)) := ⟨_, rfl⟩
      rw [← hck] at HC9 HMX
      obtain ⟨ga, gi, gc⟩ := ck
      obtain ⟨r0, r1, r2, r3, r4⟩ := HX9.out
      obtain ⟨hM1, hM2⟩ := HMX
      replace hM1 := Lib.hid hM1
      replace hM2 := Lib.hid hM2
      replace HCX := Lib.hid HCX
      clear hck okG HFL HX9 HT8 HO8 HO5 HBX5 hHeld c9 f9 p0 p1 p2 p3 p4 hl9
      go_wp2_with fail
      refine HC9.out.mono ?_
      rintro e wz ⟨rfl, hbb⟩
      have hBz := chain HB9.out hbb
      clear r0 r1 r2 r3 r4 HC9 HB9 hbb hB8
      by_cases h22 : cc = 22
      · have q22 : (cc == 22) = true := by rw [h22]; rfl
        clear h22
        have hd := hM2.out
        by_cases e1 : gc = 0
        · have q1 : (gc == 0) = true := by rw [e1]; rfl
          clear e1 hd
          go_wp2
          go_ret
          exact ⟨rfl, hBz⟩
        have q1 : (gc == 0) = false := beq_eq_false_iff_ne.2 e1
        by_cases e2 : ga = -1
        · have q2 : (ga == (-1 : Int)) = true := by rw [e2]; rfl
          clear e1 e2 hd
          go_wp2
          go_ret
          exact ⟨rfl, hBz⟩
        have q2 : (ga == (-1 : Int)) = false := beq_eq_false_iff_ne.2 e2
        by_cases e3 : (t : Int) < ga
        · have q3 : decide ((t : Int) < ga) = true := decide_eq_true e3
          clear e1 e2 e3 hd
          go_wp2
          go_ret
          exact ⟨rfl, hBz⟩
        have q3 : decide ((t : Int) < ga) = false := decide_eq_false e3
        obtain ⟨e4, e5⟩ := ((hd.resolve_left e1).resolve_left e2).resolve_left e3
        have q4 : (ga == (t : Int)) = true := by rw [show ga = (t : Int) from e4]; simp
        have q5 : decide ((i : Int) ≤ gi) = true := decide_eq_true e5
        clear e1 e2 e3 e4 e5 hd
        go_wp2
        go_ret
        exact ⟨rfl, hBz⟩
      · have q22 : (cc == 22) = false := beq_eq_false_iff_ne.2 h22
        have hd := hM1.out (by rw [← HCX.out]; exact h22)
        rw [← HCX.out] at hd
        injection hd with e1 hd
        injection hd with e2 e3
        have q1 : (ga == (t : Int)) = true := by rw [e1]; simp
        have q2 : (gi == (i : Int)) = true := by rw [e2]; simp
        have q3 : (gc == cc) = true := by rw [e3]; simp
        clear h22 e1 e2 e3
        go_wp2
        go_ret
        exact ⟨rfl, hBz⟩
end Go.Proofs.YtclhgmopphhalaaGreatDoor
