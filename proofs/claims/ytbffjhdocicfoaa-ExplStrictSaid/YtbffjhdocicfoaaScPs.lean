/-
  sc.Step.
-/
import Derived.Test.YtbffjhdocicfoaaScPo
import Derived.Test.YtbffjhdocicfoaaScDo
import Derived.Deep.RegionHeld3
import Derived.Deep.DeepCutAuto
namespace Go.Proofs.Ytbffjhdocicfoaa
open Go.RowKit
set_option linter.unusedVariables false
set_option linter.unusedSimpArgs false
open CodM (St Pg rightP hReg hLoc)
open BfM (Wr plc)
open ScM

set_option maxHeartbeats 8000000 in
set_option maxRecDepth 100000 in
theorem sstep_any {B : Nat} {v u : Value} {P : Pg} {s : Sta} (t : Int) (w : World) (hv : PgV B w v P) (hu : StaV B w u s) (hBB : B ≤ w.heap.size) (hp : rightP P = true) (ho : OkSt P s) (hw : WideS s) :
    Calls Try.prog 50 #[v, u, .int .i64 t] w (StpRet P s t w) := by
  have HOWN := Lib.hid (fun W (hW : Below w.heap.size w W) => sown_any W ((hu.below (hW.mono hBB)).more (Nat.le_trans hBB hW.size)) (Nat.le_refl _) hw)
  obtain ⟨pi, pt, rfl, hpm⟩ := hv
  obtain ⟨um, ut, rfl, hum⟩ := hu
  obtain ⟨hi4, ht1, ht3, -⟩ := right_ths hp
  have HPM := Lib.hid hpm
  obtain ⟨⟨P0, d0, rfl, -⟩, ⟨P1, d1, rfl, l1, l2, l3⟩⟩ := hpm
  obtain ⟨⟨A7, c7, rfl, -⟩, ⟨A1, c1, rfl, -⟩⟩ := hum
  unfold maxLen at l2
  have HP := Lib.hid hp
  have HO := Lib.hid ho
  have HTL := Lib.hid ho.ths
  have HL3' := Lib.hid l3
  clear hp ho hw l3
  have HCO := Lib.hid (show Try.prog.cellsOf 62 = 2 from by kernel_rfl)
  obtain ⟨W3, hW3⟩ : ∃ W, W = ((w.alloc (.cells #[.slice P0 P.init.length d0, .slice P1 P.ths.length d1] 25)).alloc (.cells #[.slice A7 s.mem.length c7, .slice A1 s.ths.length c1] 62)).alloc (.cells #[.slice none 0 0, .slice none 0 0] 62) := ⟨_, rfl⟩
  obtain ⟨gp, hgp⟩ : ∃ g, g = w.heap.size := ⟨_, rfl⟩
  obtain ⟨gs, hgs⟩ : ∃ g, g = w.heap.size + 1 := ⟨_, rfl⟩
  obtain ⟨gr, hgr⟩ : ∃ g, g = w.heap.size + 1 + 1 := ⟨_, rfl⟩
  have HX := Lib.hid (show BoxC W3 gp 25 #[.slice P0 P.init.length d0, .slice P1 P.ths.length d1] from by rw [hW3, hgp]; exact ((BoxC.new w _ _).alloc _).alloc _)
  have HY := Lib.hid (show BoxC W3 gs 62 #[.slice A7 s.mem.length c7, .slice A1 s.ths.length c1] from by rw [hW3, hgs]; have := (BoxC.new (w.alloc (.cells #[.slice P0 P.init.length d0, .slice P1 P.ths.length d1] 25)) 62 #[.slice A7 s.mem.length c7, .slice A1 s.ths.length c1]).alloc (.cells #[.slice none 0 0, .slice none 0 0] 62); rw [World.size_alloc] at this; exact this)
  have HR := Lib.hid (show BoxC W3 gr 62 #[.slice none 0 0, .slice none 0 0] from by rw [hW3, hgr]; have := BoxC.new ((w.alloc (.cells #[.slice P0 P.init.length d0, .slice P1 P.ths.length d1] 25)).alloc (.cells #[.slice A7 s.mem.length c7, .slice A1 s.ths.length c1] 62)) 62 #[.slice none 0 0, .slice none 0 0]; rw [World.size_alloc, World.size_alloc] at this; exact this)
  have HB3 := Lib.hid (show Below w.heap.size w W3 from by rw [hW3]; exact below_al (below_al (below_al (Below.refl _ _) _) _) _)
  have HGR := Lib.hid (show w.heap.size ≤ gr from by omega)
  have y0 := HY.out.cell 0 _ rfl
  have y1 := HY.out.cell 1 _ rfl
  go_enter Try.func50, Try.ntmps50
  go_upto_region 1 with fail
  rw [← hW3]
  (try rw [← hgr])
  (try rw [← hgs])
  (try rw [← hgp])
  clear hW3 hgr hgs hgp
  go_wp2_with fail
  refine (HOWN.out _ HB3.out).mono ?_
  rintro e w1 ⟨vm, vt, ps, rfl, hos, hb1⟩
  have HOS := Lib.hid hos
  have HB1 := Lib.hid hb1
  obtain ⟨Am, cm, rfl⟩ := own_slice hos.mem
  obtain ⟨Av, cv, rfl⟩ := own_slice hos.ths
  clear hos hb1 HOWN y0 y1
  go_upto_region 2 with fail
  obtain ⟨X1, hX1⟩ : ∃ W, W = w1.alloc (.cells #[.slice Am s.mem.length cm, .slice Av s.ths.length cv] 62) := ⟨_, rfl⟩
  obtain ⟨go, hgo⟩ : ∃ g, g = w1.heap.size := ⟨_, rfl⟩
  have HQ1 := Lib.hid (show BoxC X1 go 62 #[.slice Am s.mem.length cm, .slice Av s.ths.length cv] from by rw [hX1, hgo]; exact BoxC.new w1 _ _)
  have HL1 := Lib.hid (show Below w1.heap.size w1 X1 from by rw [hX1]; exact below_al (Below.refl _ _) _)
  have HL3 := Lib.hid (chain HB1.out HL1.out)
  replace HOS := Lib.hid (HOS.out.below HL1.out)
  rw [← hX1]
  (try rw [← hgo])
  clear hX1 hgo HL1 HB1
  have x1 := (HX.out.below HL3.out HX.out.lt).cell 1 _ rfl
  have HRR := Lib.hid (HR.out.below HL3.out HR.out.lt)
  have HBF := Lib.hid (chain HB3.out HL3.out)
  by_cases hr : 0 ≤ t ∧ t < (P.ths.length : Int)
  case neg =>
    have HAE := Lib.hid (show atS P s t = none from atS_none (fun ⟨k, e, h1, h2, _⟩ => hr ⟨by omega, by omega⟩))
    have HSE := Lib.hid (stp_no HAE.out)
    by_cases h0 : t < 0
    · clear hr
      have y0 := HQ1.out.cell 0 _ rfl
      have y1 := HQ1.out.cell 1 _ rfl
      have r0 := HRR.out.cell 0 _ rfl
      have r1 := HRR.out.cell 1 _ rfl
      have f0 := HRR.out.frozen 0
      have f1 := HRR.out.frozen 1
      obtain ⟨W9, hW9⟩ : ∃ W, W = (X1.setCell ⟨gr, 0, none⟩ (.slice Am s.mem.length cm)).setCell ⟨gr, 1, none⟩ (.slice Av s.ths.length cv) := ⟨_, rfl⟩
      have HR9 := Lib.hid (show BoxC W9 gr 62 #[.slice Am s.mem.length cm, .slice Av s.ths.length cv] from by rw [hW9]; exact (HRR.out.set 0 _).set 1 _)
      have HO9 := Lib.hid (show OwnSt W3.heap.size W9 (.slice Am s.mem.length cm) (.slice Av s.ths.length cv) (stp P s t) ps from by
        rw [hW9]
        exact ((HOS.out.cast HSE.out.symm).box HRR.out (by decide) (by decide) (by decide) 0 _).box (HRR.out.set 0 _) (by decide) (by decide) (by decide) 1 _)
      have HB9 := Lib.hid (show Below w.heap.size w W9 from by rw [hW9]; exact (HBF.out.setCell (p := ⟨gr, 0, none⟩) HGR.out _).setCell (p := ⟨gr, 1, none⟩) HGR.out _)
      have HW9 := Lib.hid hW9
      clear hW9
      go_wp2_with fail
      rw [← HW9.out]
      clear y0 y1 r0 r1 f0 f1
      have r0 := HR9.out.cell 0 _ rfl
      have r1 := HR9.out.cell 1 _ rfl
      have hz := HCO.out
      refine bodyPost_ret (v := .tuple #[.agg #[.slice Am s.mem.length cm, .slice Av s.ths.length cv], .bool false]) (by simp [results, Try.results50, go_sem, r0, r1, hz]) rfl ⟨_, _, _, by rw [HAE.out]; rfl, HO9.out.base HB3.out.size, HB9.out⟩

    · have h1 : (P.ths.length : Int) ≤ t := by omega
      clear hr
      have y0 := HQ1.out.cell 0 _ rfl
      have y1 := HQ1.out.cell 1 _ rfl
      have r0 := HRR.out.cell 0 _ rfl
      have r1 := HRR.out.cell 1 _ rfl
      have f0 := HRR.out.frozen 0
      have f1 := HRR.out.frozen 1
      obtain ⟨W9, hW9⟩ : ∃ W, W = (X1.setCell ⟨gr, 0, none⟩ (.slice Am s.mem.length cm)).setCell ⟨gr, 1, none⟩ (.slice Av s.ths.length cv) := ⟨_, rfl⟩
      have HR9 := Lib.hid (show BoxC W9 gr 62 #[.slice Am s.mem.length cm, .slice Av s.ths.length cv] from by rw [hW9]; exact (HRR.out.set 0 _).set 1 _)
      have HO9 := Lib.hid (show OwnSt W3.heap.size W9 (.slice Am s.mem.length cm) (.slice Av s.ths.length cv) (stp P s t) ps from by
        rw [hW9]
        exact ((HOS.out.cast HSE.out.symm).box HRR.out (by decide) (by decide) (by decide) 0 _).box (HRR.out.set 0 _) (by decide) (by decide) (by decide) 1 _)
      have HB9 := Lib.hid (show Below w.heap.size w W9 from by rw [hW9]; exact (HBF.out.setCell (p := ⟨gr, 0, none⟩) HGR.out _).setCell (p := ⟨gr, 1, none⟩) HGR.out _)
      have HW9 := Lib.hid hW9
      clear hW9
      go_wp2_with fail
      rw [← HW9.out]
      clear y0 y1 r0 r1 f0 f1
      have r0 := HR9.out.cell 0 _ rfl
      have r1 := HR9.out.cell 1 _ rfl
      have hz := HCO.out
      refine bodyPost_ret (v := .tuple #[.agg #[.slice Am s.mem.length cm, .slice Av s.ths.length cv], .bool false]) (by simp [results, Try.results50, go_sem, r0, r1, hz]) rfl ⟨_, _, _, by rw [HAE.out]; rfl, HO9.out.base HB3.out.size, HB9.out⟩

  obtain ⟨hr1, hr2⟩ := hr
  obtain ⟨k, rfl⟩ : ∃ k : Nat, t = k := ⟨t.toNat, by omega⟩
  have hkt : k < P.ths.length := by omega
  have hks : k < s.ths.length := by rw [HTL.out]; exact hkt
  obtain ⟨b2, f2, rfl, hb2, hc2⟩ := HL3'.out (by omega)
  obtain ⟨uu, z0, hS⟩ := (hc2 k hkt).below ((HBF.out).mono hBB) hb2
  have hkp : k < ps.length := by rw [HOS.out.len]; exact hks
  obtain ⟨gv, cv', cur, hev, hgv, hbv, t0, t1, t2, t3⟩ := HOS.out.row hkp
  rw [HOS.out.at hkp hks] at t0
  injection hev with hev1 hev3 hev2
  clear hev3
  subst hev1 hev2
  have HBV := Lib.hid hbv
  have HGV := Lib.hid hgv
  have HKS := Lib.hid hks
  have HKT := Lib.hid hkt
  have HTH := Lib.hid (HO.out.th k hks hkt)
  have HLN := Lib.hid ((right_ths HP.out).2.2.2 k hkt)
  have HS5 := Lib.hid (fun j (hj : j < P.ths[k].length) => show ∃ b f, True from ⟨0, 0, trivial⟩)
  have HAS := Lib.hid (fun (h : s.ths[k].at'.toNat < P.ths[k].length) => And.intro (atS_at hks hkt h) (stp_at hks hkt h))
  have HAN := Lib.hid (fun (h : ¬ s.ths[k].at'.toNat < P.ths[k].length) => atS_past (s := s) (h1 := hks) (h2 := hkt) h)
  have HPX := Lib.hid (fun (h : s.ths[k].at'.toNat < P.ths[k].length) => show StP s.mem.length P.ths[k].length s.ths[k].at'.toNat P.ths[k][s.ths[k].at'.toNat] from by rw [HO.out.mem]; exact stp_of HP.out hkt h)
  have HDO := Lib.hid (fun (x : St) (X : World) (hX : OwnSt W3.heap.size X (.slice Am s.mem.length cm) (.slice (some ⟨gv, 0, none⟩) s.ths.length cv) s ps) (hpx : StP s.mem.length P.ths[k].length s.ths[k].at'.toNat x) (h0 : 0 ≤ s.ths[k].at') (h1 : s.ths[k].at' < 80) (h4 : s.ths[k].regs.length = 4) (hb : W3.heap.size ≤ X.heap.size) => sdo_any x X hX hks hpx h0 h1 h4 hb)
  generalize P.ths[k] = ss at *
  generalize s.ths[k] = h at *
  clear hc2 t1 t2 t3 hkp hgv hbv HS5
  obtain ⟨xa, xr, xe, xb⟩ := h
  obtain ⟨n, rfl⟩ : ∃ n : Nat, xa = n := ⟨xa.toNat, by have h : 0 ≤ xa := HTH.out.lo; omega⟩
  dsimp only at *
  simp only [Int.toNat_natCast] at HAS HAN HPX HDO
  obtain ⟨A5, c5, rfl, m1, m2, m3⟩ := hS
  have y1 := HQ1.out.cell 1 _ rfl
  go_upto_region 4 with fail
  refine wp_region_held_drew (S := (fun w' => w'.cell? ⟨go, 1, none⟩ = some (.slice (some ⟨gv, 0, none⟩) s.ths.length cv) ∧ w'.cell? ⟨gp, 1, none⟩ = some (.slice (some ⟨b2, f2, none⟩) P.ths.length d1) ∧ w'.cell? ⟨b2, f2 + k, none⟩ = some (.slice A5 ss.length c5) ∧ True)) (by kernel_rfl) ⟨y1, x1, z0, trivial⟩ (fun hHeld => ?_)
  refine wpAnyH_take (i := 0) (v := ?_) rfl (by kernel_rfl) (by kernel_rfl) (by kernel_rfl) (fun _ _ _ h => h) (Or.inl ⟨by rfl, ?_⟩) (by assumption) ?_
  rotate_left
  · intro w hSw; (try dsimp only at hSw); go_simp; (try with_reducible rfl)
  (try simp only [Act.put, pt8])
  refine wpAnyH_take (i := 1) (v := ?_) rfl (by kernel_rfl) (by kernel_rfl) (by kernel_rfl) (fun _ _ _ h => h) (Or.inl ⟨by rfl, ?_⟩) (by assumption) ?_
  rotate_left
  · intro w hSw; (try dsimp only at hSw); go_simp; (try with_reducible rfl)
  (try simp only [Act.put, pt8])
  refine wpAnyH_take (i := 2) (v := ?_) rfl (by kernel_rfl) (by kernel_rfl) (by kernel_rfl) (fun _ _ _ h => h) (Or.inl ⟨by rfl, ?_⟩) (by assumption) ?_
  rotate_left
  · intro w hSw; (try dsimp only at hSw); go_simp; (try with_reducible rfl)
  (try simp only [Act.put, pt8])
  refine wpAnyH_take (i := 3) (v := ?_) rfl (by kernel_rfl) (by kernel_rfl) (by kernel_rfl) (fun _ _ _ h => h) (Or.inl ⟨by rfl, ?_⟩) (by assumption) ?_
  rotate_left
  · intro w hSw; (try dsimp only at hSw); go_simp; (try with_reducible rfl)
  (try simp only [Act.put, pt8])
  refine wpAnyH_take (i := 4) (v := ?_) rfl (by kernel_rfl) (by kernel_rfl) (by kernel_rfl) (fun _ _ _ h => h) (Or.inl ⟨by rfl, ?_⟩) (by assumption) ?_
  rotate_left
  · intro w hSw; (try dsimp only at hSw); go_simp; (try with_reducible rfl)
  (try simp only [Act.put, pt8])
  refine wpAnyH_take (i := 5) (v := ?_) rfl (by kernel_rfl) (by kernel_rfl) (by kernel_rfl) (fun _ _ _ h => h) (Or.inl ⟨by rfl, ?_⟩) (by assumption) ?_
  rotate_left
  · intro w hSw; (try dsimp only at hSw); go_simp; (try with_reducible rfl)
  (try simp only [Act.put, pt8])
  refine wpAnyH_take (i := 6) (v := ?_) rfl (by kernel_rfl) (by kernel_rfl) (by kernel_rfl) (fun _ _ _ h => h) (Or.inl ⟨by rfl, ?_⟩) (by assumption) ?_
  rotate_left
  · intro w hSw; (try dsimp only at hSw); go_simp; (try with_reducible rfl)
  (try simp only [Act.put, pt8])
  refine wpAnyH_take (i := 7) (v := ?_) rfl (by kernel_rfl) (by kernel_rfl) (by kernel_rfl) (fun _ _ _ h => h) (Or.inl ⟨by rfl, ?_⟩) (by assumption) ?_
  rotate_left
  · intro w hSw; (try dsimp only at hSw); go_simp; (try with_reducible rfl)
  (try simp only [Act.put, pt8])
  refine wpAnyH_take (i := 8) (v := ?_) rfl (by kernel_rfl) (by kernel_rfl) (by kernel_rfl) (fun _ _ _ h => h) (Or.inl ⟨by rfl, ?_⟩) (by assumption) ?_
  rotate_left
  · intro w hSw; (try dsimp only at hSw); go_simp; (try with_reducible rfl)
  (try simp only [Act.put, pt8])
  refine wpAnyH_ready (rs := [9]) (by kernel_rfl) (by simp) ?_
  refine AllReadyH.cons rfl (fun K hK => ?_) AllReadyH.nil
  go_simp
  refine hK.out _ _ hHeld (fun hHeld => ?_)
  clear hK K
  (try simp only [Act.put, pt8])
  refine wpAnyH_ready (rs := [10]) (by kernel_rfl) (by simp) ?_
  refine AllReadyH.cons rfl (fun K hK => ?_) AllReadyH.nil
  go_simp
  refine hK.out _ _ hHeld (fun hHeld => ?_)
  clear hK K
  (try simp only [Act.put, pt8])
  refine wpAnyH_done (by kernel_rfl) ?_ _
  clear hHeld
  have HBX := Lib.hid (Nat.le_trans hBB HBF.out.size)
  obtain ⟨Xd, hXd⟩ : ∃ W, W = X1.drew := ⟨_, rfl⟩
  have HST := Lib.hid (show Below X1.heap.size X1 Xd from by rw [hXd]; exact below_drewN (Below.refl _ _) 1)
  rw [← hXd]
  clear hXd
  replace HOS := Lib.hid (HOS.out.below HST.out)
  replace HQ1 := Lib.hid (HQ1.out.below HST.out HQ1.out.lt)
  replace HRR := Lib.hid (HRR.out.below HST.out HRR.out.lt)
  replace HBF := Lib.hid (chain HBF.out HST.out)
  replace t0 := kc HST.out t0
  clear hks
  have HM3 := Lib.hid (fun j (hj : j < ss.length) => show ∃ b f, A5 = some ⟨b, f, none⟩ ∧ b < B ∧ StAt Xd b (f + j * 5) ss[j] from by
    obtain ⟨b, f, e, hb, hc⟩ := m3 (by omega)
    exact ⟨b, f, e, hb, (hc j hj).below (HST.out.mono HBX.out) hb⟩)
  clear m3 x1 y1 z0
  by_cases hat : n < ss.length
  case neg =>
    have hnl : n = ss.length := by have h : (n : Int) ≤ ss.length := HTH.out.hi; omega
    have HAE := Lib.hid (HAN.out hat)
    have HSE := Lib.hid (stp_no HAE.out)
    have hq : ((n : Int) == (ss.length : Int)) = true := by rw [beq_iff_eq]; omega
    clear hat hnl HDO HPX HAS HAN
    have y0 := HQ1.out.cell 0 _ rfl
    have y1 := HQ1.out.cell 1 _ rfl
    have r0 := HRR.out.cell 0 _ rfl
    have r1 := HRR.out.cell 1 _ rfl
    have f0 := HRR.out.frozen 0
    have f1 := HRR.out.frozen 1
    obtain ⟨W9, hW9⟩ : ∃ W, W = (Xd.setCell ⟨gr, 0, none⟩ (.slice Am s.mem.length cm)).setCell ⟨gr, 1, none⟩ (.slice (some ⟨gv, 0, none⟩) s.ths.length cv) := ⟨_, rfl⟩
    have HR9 := Lib.hid (show BoxC W9 gr 62 #[.slice Am s.mem.length cm, .slice (some ⟨gv, 0, none⟩) s.ths.length cv] from by rw [hW9]; exact (HRR.out.set 0 _).set 1 _)
    have HO9 := Lib.hid (show OwnSt W3.heap.size W9 (.slice Am s.mem.length cm) (.slice (some ⟨gv, 0, none⟩) s.ths.length cv) (stp P s (k : Int)) ps from by
      rw [hW9]
      exact ((HOS.out.cast HSE.out.symm).box HRR.out (by decide) (by decide) (by decide) 0 _).box (HRR.out.set 0 _) (by decide) (by decide) (by decide) 1 _)
    have HB9 := Lib.hid (show Below w.heap.size w W9 from by rw [hW9]; exact (HBF.out.setCell (p := ⟨gr, 0, none⟩) HGR.out _).setCell (p := ⟨gr, 1, none⟩) HGR.out _)
    have HW9 := Lib.hid hW9
    clear hW9
    go_wp2_with fail
    rw [← HW9.out]
    clear y0 y1 r0 r1 f0 f1
    have r0 := HR9.out.cell 0 _ rfl
    have r1 := HR9.out.cell 1 _ rfl
    have hz := HCO.out
    refine bodyPost_ret (v := .tuple #[.agg #[.slice Am s.mem.length cm, .slice (some ⟨gv, 0, none⟩) s.ths.length cv], .bool false]) (by simp [results, Try.results50, go_sem, r0, r1, hz]) rfl ⟨_, _, _, by rw [HAE.out]; rfl, HO9.out.base HB3.out.size, HB9.out⟩

  have hq : ((n : Int) == (ss.length : Int)) = false := by rw [beq_eq_false_iff_ne]; omega
  obtain ⟨b5, f5, rfl, hb5, hs0, hs1, hs2, hs3, hs4⟩ := HM3.out n hat
  have hlb : b5 < W3.heap.size := Nat.lt_of_lt_of_le hb5 (Nat.le_trans hBB HB3.out.size)
  have HPX' := Lib.hid (HPX.out hat)
  have HAS' := Lib.hid (HAS.out hat)
  clear HPX HAS HAN HM3
  generalize ss[n] = x at *
  obtain ⟨op, rg, lc, nn, tn⟩ := x
  dsimp only at hs0 hs1 hs2 hs3 hs4
  have hn80 : (n : Int) < 80 := by have := HLN.out; omega
  have HD := Lib.hid (fun X hX hb => HDO.out (⟨op, rg, lc, nn, tn⟩ : St) X hX HPX'.out (by omega) hn80 HTH.out.regs hb)
  unfold stV at HD
  dsimp only at HD
  have y0 := HQ1.out.cell 0 _ rfl
  go_upto_region 7 with fail
  refine wp_region_held_drew (S := (fun w' => w'.cell? ⟨go, 0, none⟩ = some (.slice Am s.mem.length cm) ∧ w'.cell? ⟨b5, f5 + n * 5, none⟩ = some (.int .i64 op) ∧ w'.cell? ⟨b5, f5 + n * 5 + 1, none⟩ = some (.int .i64 rg) ∧ w'.cell? ⟨b5, f5 + n * 5 + 2, none⟩ = some (.int .i64 lc) ∧ w'.cell? ⟨b5, f5 + n * 5 + 3, none⟩ = some (.int .i64 nn) ∧ w'.cell? ⟨b5, f5 + n * 5 + 4, none⟩ = some (.int .i64 tn) ∧ True)) (by kernel_rfl) ⟨y0, hs0, hs1, hs2, hs3, hs4, trivial⟩ (fun hHeld => ?_)
  obtain ⟨Xf, hXf⟩ : ∃ W, W = Xd.drew := ⟨_, rfl⟩
  have HST2 := Lib.hid (show Below Xd.heap.size Xd Xf from by rw [hXf]; exact below_drewN (Below.refl _ _) 1)
  rw [← hXf] at hHeld ⊢
  clear hXf
  replace HOS := Lib.hid (HOS.out.below HST2.out)
  replace HQ1 := Lib.hid (HQ1.out.below HST2.out HQ1.out.lt)
  replace HRR := Lib.hid (HRR.out.below HST2.out HRR.out.lt)
  replace HBF := Lib.hid (chain HBF.out HST2.out)
  replace t0 := kc HST2.out t0
  refine wpAnyH_take (i := 0) (v := ?_) rfl (by kernel_rfl) (by kernel_rfl) (by kernel_rfl) (fun _ _ _ h => h) (Or.inl ⟨by rfl, ?_⟩) (by assumption) ?_
  rotate_left
  · intro w hSw; (try dsimp only at hSw); go_simp; (try with_reducible rfl)
  (try simp only [Act.put, pt8])
  refine wpAnyH_take (i := 1) (v := ?_) rfl (by kernel_rfl) (by kernel_rfl) (by kernel_rfl) (fun _ _ _ h => h) (Or.inl ⟨by rfl, ?_⟩) (by assumption) ?_
  rotate_left
  · intro w hSw; (try dsimp only at hSw); go_simp; (try with_reducible rfl)
  (try simp only [Act.put, pt8])
  refine wpAnyH_take (i := 2) (v := ?_) rfl (by kernel_rfl) (by kernel_rfl) (by kernel_rfl) (fun _ _ _ h => h) (Or.inl ⟨by rfl, ?_⟩) (by assumption) ?_
  rotate_left
  · intro w hSw; (try dsimp only at hSw); go_simp; (try with_reducible rfl)
  (try simp only [Act.put, pt8])
  refine wpAnyH_take (i := 3) (v := ?_) rfl (by kernel_rfl) (by kernel_rfl) (by kernel_rfl) (fun _ _ _ h => h) (Or.inl ⟨by rfl, ?_⟩) (by assumption) ?_
  rotate_left
  · intro w hSw; (try dsimp only at hSw); go_simp; (try with_reducible rfl)
  (try simp only [Act.put, pt8])
  refine wpAnyH_take (i := 7) (v := ?_) rfl (by kernel_rfl) (by kernel_rfl) (by kernel_rfl) (fun _ _ _ h => h) (Or.inl ⟨by rfl, ?_⟩) (by assumption) ?_
  rotate_left
  · intro w hSw; (try dsimp only at hSw); go_simp; (try with_reducible rfl)
  (try simp only [Act.put, pt8])
  refine wpAnyH_take (i := 8) (v := ?_) rfl (by kernel_rfl) (by kernel_rfl) (by kernel_rfl) (fun _ _ _ h => h) (Or.inl ⟨by rfl, ?_⟩) (by assumption) ?_
  rotate_left
  · intro w hSw; (try dsimp only at hSw); go_simp; (try with_reducible rfl)
  (try simp only [Act.put, pt8])
  refine wpAnyH_take (i := 9) (v := ?_) rfl (by kernel_rfl) (by kernel_rfl) (by kernel_rfl) (fun _ _ _ h => h) (Or.inl ⟨by rfl, ?_⟩) (by assumption) ?_
  rotate_left
  · intro w hSw; (try dsimp only at hSw); go_simp; (try with_reducible rfl)
  (try simp only [Act.put, pt8])
  refine wpAnyH_ready (rs := [4]) (by kernel_rfl) (by simp) ?_
  refine AllReadyH.cons rfl (fun K hK => ?_) AllReadyH.nil
  go_simp
  refine hK.out _ _ hHeld (fun hHeld => ?_)
  clear hK K
  (try simp only [Act.put, pt8])
  refine wpAnyH_take (i := 5) (v := ?_) rfl (by kernel_rfl) (by kernel_rfl) (by kernel_rfl) (fun _ _ _ h => h) (Or.inl ⟨by rfl, ?_⟩) (by assumption) ?_
  rotate_left
  · intro w hSw; (try dsimp only at hSw); go_simp; (try with_reducible rfl)
  (try simp only [Act.put, pt8])
  refine wpAnyH_take (i := 6) (v := ?_) rfl (by kernel_rfl) (by kernel_rfl) (by kernel_rfl) (fun _ _ _ h => h) (Or.inl ⟨by rfl, ?_⟩) (by assumption) ?_
  rotate_left
  · intro w hSw; (try dsimp only at hSw); go_simp; (try with_reducible rfl)
  (try simp only [Act.put, pt8])
  refine wpAnyH_ready (rs := [10]) (by kernel_rfl) (by simp) ?_
  refine AllReadyH.cons rfl (fun K hK => ?_) AllReadyH.nil
  go_simp
  refine (HD.out Xf HOS.out (Nat.le_trans (chain HL3.out (chain HST.out HST2.out)).size (Nat.le_refl _))).mono ?_
  rintro e X6 ⟨rfl, ⟨ps', ho6⟩, hb6, hk6⟩
  have HO6 := Lib.hid ho6
  have HB6 := Lib.hid hb6
  have HQ6 := Lib.hid (hk6 _ _ _ (by decide) (by decide) HQ1.out)
  have HRR6 := Lib.hid (hk6 _ _ _ (by decide) (by decide) HRR.out)
  obtain ⟨a0, a1, a2, a3, a4, a5, -⟩ := hHeld
  have hc6 : ∀ i v, Xf.cell? ⟨b5, i, none⟩ = some v → X6.cell? ⟨b5, i, none⟩ = some v := fun i v h => (hb6.cell (p := ⟨b5, i, none⟩) hlb).trans h
  refine hK.out _ _ ⟨HQ6.out.cell 0 _ rfl, hc6 _ _ a1, hc6 _ _ a2, hc6 _ _ a3, hc6 _ _ a4, hc6 _ _ a5, trivial⟩ (fun hHeld => ?_)
  clear hK K
  (try simp only [Act.put, pt8])
  clear hc6 ho6 hb6 hk6 a0 a1 a2 a3 a4 a5
  refine wpAnyH_done (by kernel_rfl) ?_ _
  clear hHeld
  have HRR := Lib.hid HRR6.out
  have HAE := Lib.hid HAS'.out.1
  have y0 := HQ6.out.cell 0 _ rfl
  have y1 := HQ6.out.cell 1 _ rfl
  have r0 := HRR.out.cell 0 _ rfl
  have r1 := HRR.out.cell 1 _ rfl
  have f0 := HRR.out.frozen 0
  have f1 := HRR.out.frozen 1
  obtain ⟨W9, hW9⟩ : ∃ W, W = (X6.setCell ⟨gr, 0, none⟩ (.slice Am s.mem.length cm)).setCell ⟨gr, 1, none⟩ (.slice (some ⟨gv, 0, none⟩) s.ths.length cv) := ⟨_, rfl⟩
  have HR9 := Lib.hid (show BoxC W9 gr 62 #[.slice Am s.mem.length cm, .slice (some ⟨gv, 0, none⟩) s.ths.length cv] from by rw [hW9]; exact (HRR.out.set 0 _).set 1 _)
  have HO9 := Lib.hid (show OwnSt W3.heap.size W9 (.slice Am s.mem.length cm) (.slice (some ⟨gv, 0, none⟩) s.ths.length cv) (stp P s (k : Int)) ps' from by
    rw [hW9]
    exact ((HO6.out.cast (by rw [HAS'.out.2])).box HRR.out (by decide) (by decide) (by decide) 0 _).box (HRR.out.set 0 _) (by decide) (by decide) (by decide) 1 _)
  have HB9 := Lib.hid (show Below w.heap.size w W9 from by rw [hW9]; exact ((HBF.out.trans (HB6.out.mono HB3.out.size)).setCell (p := ⟨gr, 0, none⟩) HGR.out _).setCell (p := ⟨gr, 1, none⟩) HGR.out _)
  have HW9 := Lib.hid hW9
  clear hW9
  go_wp2_with fail
  rw [← HW9.out]
  clear y0 y1 r0 r1 f0 f1
  have r0 := HR9.out.cell 0 _ rfl
  have r1 := HR9.out.cell 1 _ rfl
  have hz := HCO.out
  refine bodyPost_ret (v := .tuple #[.agg #[.slice Am s.mem.length cm, .slice (some ⟨gv, 0, none⟩) s.ths.length cv], .bool true]) (by simp [results, Try.results50, go_sem, r0, r1, hz]) rfl ⟨_, _, _, by rw [HAE.out]; rfl, HO9.out.base HB3.out.size, HB9.out⟩

end Go.Proofs.Ytbffjhdocicfoaa
