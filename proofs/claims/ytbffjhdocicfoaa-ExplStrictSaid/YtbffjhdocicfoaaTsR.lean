/-
  tso.stepped.
-/
import Derived.Test.YtbffjhdocicfoaaTsO
import Derived.Test.YtbffjhdocicfoaaSuU
import Derived.Deep.RegionHeld3
import Derived.Deep.DeepCutAuto
namespace Go.Proofs.Ytbffjhdocicfoaa
open Go.RowKit
set_option linter.unusedVariables false
set_option linter.unusedSimpArgs false
open CodM (St Pg rightP hReg hLoc)
open BfM (Wr plc)
open ScM

set_option maxHeartbeats 8000000 in
set_option maxRecDepth 100000 in
theorem tstepped_any {B : Nat} {v u : Value} {P : Pg} {s : Sta} (k n : Nat) {op rg lc nn tn : Int} {xr : List Int} {xe : Bool} {xb : List Wr} (w : World) (hv : PgV B w v P) (hu : StaV B w u s) (hBB : B ≤ w.heap.size) (hp : rightP P = true) (ho : OkSt P s) (hw : WideS s) (hks : k < s.ths.length) (hkt : k < P.ths.length) (hth : s.ths[k] = ⟨(n : Int), xr, xe, xb⟩) (hn : n < P.ths[k].length) (hx : P.ths[k][n] = ⟨op, rg, lc, nn, tn⟩) :
    Calls Try.prog 66 #[v, u, .int .i64 (k : Int)] w (StRet (tsS ⟨op, rg, lc, nn, tn⟩ s k ⟨(n : Int), xr, xe, xb⟩) w) := by
  have HST := Lib.hid (fun W (hW : Below w.heap.size w W) => sstep_any (k : Int) W ((hv.below (hW.mono hBB)).more (Nat.le_trans hBB hW.size)) ((hu.below (hW.mono hBB)).more (Nat.le_trans hBB hW.size)) (Nat.le_refl _) hp ho hw)
  have h3 : s.ths[k].at'.toNat < P.ths[k].length := by rw [hth]; exact hn
  have HAE := Lib.hid (show atS P s (k : Int) = some ⟨op, rg, lc, nn, tn⟩ from by rw [atS_at hks hkt h3]; simp only [hth, Int.toNat_natCast, hx])
  have HSE := Lib.hid (show stp P s (k : Int) = ⟨ScM.stM ⟨op, rg, lc, nn, tn⟩ s.mem xr, s.ths.set k (stT ⟨op, rg, lc, nn, tn⟩ s.mem ⟨(n : Int), xr, xe, xb⟩)⟩ from by rw [stp_at hks hkt h3]; simp only [hth, Int.toNat_natCast, hx])
  have HPX := Lib.hid (show StP s.mem.length P.ths[k].length n ⟨op, rg, lc, nn, tn⟩ from by have := stp_of hp hkt hn; rw [hx, ← ho.mem] at this; exact this)
  have HXR := Lib.hid (show xr.length = 4 from by have := (ho.th k hks hkt).regs; rw [hth] at this; exact this)
  have HBL := Lib.hid (show xb.length ≤ 1000000 from by have := (hw.regs _ (List.getElem_mem hks)).2; rw [hth] at this; dsimp only at this; omega)
  have hwm := hw.mem
  clear hp ho hw h3
  obtain ⟨pi, pt, rfl, hpm⟩ := hv
  obtain ⟨um, ut, rfl, hum⟩ := hu
  obtain ⟨⟨P0, d0, rfl, -⟩, ⟨P1, d1, rfl, l1, l2, l3⟩⟩ := hpm
  have HUM := Lib.hid hum.1
  obtain ⟨⟨A7, c7, rfl, -⟩, ⟨A1, c1, rfl, m1, m2, -, m3⟩⟩ := hum
  have HM3 := Lib.hid m3
  have HL3P := Lib.hid l3
  unfold maxLen at m2 l2
  clear m3 l3
  have HCO := Lib.hid (show Try.prog.cellsOf 62 = 2 from by kernel_rfl)
  obtain ⟨W3, hW3⟩ : ∃ W, W = ((w.alloc (.cells #[.slice P0 P.init.length d0, .slice P1 P.ths.length d1] 25)).alloc (.cells #[.slice A7 s.mem.length c7, .slice A1 s.ths.length c1] 62)).alloc (.cells #[.slice none 0 0, .slice none 0 0] 62) := ⟨_, rfl⟩
  obtain ⟨gp, hgp⟩ : ∃ g, g = w.heap.size := ⟨_, rfl⟩
  obtain ⟨gs, hgs⟩ : ∃ g, g = w.heap.size + 1 := ⟨_, rfl⟩
  obtain ⟨gr, hgr⟩ : ∃ g, g = w.heap.size + 1 + 1 := ⟨_, rfl⟩
  have HX := Lib.hid (show BoxC W3 gp 25 #[.slice P0 P.init.length d0, .slice P1 P.ths.length d1] from by rw [hW3, hgp]; exact ((BoxC.new w _ _).alloc _).alloc _)
  have HY := Lib.hid (show BoxC W3 gs 62 #[.slice A7 s.mem.length c7, .slice A1 s.ths.length c1] from by rw [hW3, hgs]; have := (BoxC.new (w.alloc (.cells #[.slice P0 P.init.length d0, .slice P1 P.ths.length d1] 25)) 62 #[.slice A7 s.mem.length c7, .slice A1 s.ths.length c1]).alloc (.cells #[.slice none 0 0, .slice none 0 0] 62); rw [World.size_alloc] at this; exact this)
  have HR := Lib.hid (show BoxC W3 gr 62 #[.slice none 0 0, .slice none 0 0] from by rw [hW3, hgr]; have := BoxC.new ((w.alloc (.cells #[.slice P0 P.init.length d0, .slice P1 P.ths.length d1] 25)).alloc (.cells #[.slice A7 s.mem.length c7, .slice A1 s.ths.length c1] 62)) 62 #[.slice none 0 0, .slice none 0 0]; rw [World.size_alloc, World.size_alloc] at this; exact this)
  have HB3 := Lib.hid (show Below w.heap.size w W3 from by rw [hW3]; exact below_al (below_al (below_al (Below.refl _ _) _) _) _)
  have HGR := Lib.hid (show w.heap.size ≤ gr from by omega)
  have HGS := Lib.hid (show gs < W3.heap.size from HY.out.lt)
  have x0 := HX.out.cell 0 _ rfl
  have x1 := HX.out.cell 1 _ rfl
  have y0 := HY.out.cell 0 _ rfl
  have y1 := HY.out.cell 1 _ rfl
  go_enter Try.func66, Try.ntmps66
  go_upto_region 1 with fail
  rw [← hW3]
  (try rw [← hgr])
  (try rw [← hgs])
  (try rw [← hgp])
  clear hW3 hgr hgs hgp
  obtain ⟨b1, f1, rfl, hb1, hc1⟩ := HM3.out (by omega)
  obtain ⟨vr0, vb0, a0, -⟩ := hc1 k hks
  rw [hth] at a0
  obtain ⟨b2, f2, rfl, hb2, hc2⟩ := HL3P.out (by omega)
  obtain ⟨vs, z0, hS⟩ := hc2 k hkt
  replace a0 := ((HB3.out.mono hBB).cell (p := ⟨b1, f1 + k * 4, none⟩) hb1).trans a0
  replace z0 := ((HB3.out.mono hBB).cell (p := ⟨b2, f2 + k, none⟩) hb2).trans z0
  have HMR := Lib.hid (nu_at (c := c7) (show 0 < s.mem.length → _ from by obtain ⟨A', c', e, -, -, -, h⟩ := HUM.out; injection e with e1 _ e3; subst e1 e3; exact h))
  obtain ⟨As, cs, rfl, r1, r2, hS3⟩ := hS
  unfold maxLen at r2
  obtain ⟨b5, f5, rfl, hb5, hst⟩ := hS3 (by omega)
  obtain ⟨s0, s1, s2, s3, s4⟩ := hst n hn
  rw [hx] at s0 s1 s2 s3 s4
  dsimp only at s0 s1 s2 s3 s4 a0
  replace s0 := ((HB3.out.mono hBB).cell (p := ⟨b5, f5 + n * 5, none⟩) hb5).trans s0
  replace s1 := ((HB3.out.mono hBB).cell (p := ⟨b5, f5 + n * 5 + 1, none⟩) hb5).trans s1
  replace s2 := ((HB3.out.mono hBB).cell (p := ⟨b5, f5 + n * 5 + 2, none⟩) hb5).trans s2
  replace s3 := ((HB3.out.mono hBB).cell (p := ⟨b5, f5 + n * 5 + 3, none⟩) hb5).trans s3
  replace s4 := ((HB3.out.mono hBB).cell (p := ⟨b5, f5 + n * 5 + 4, none⟩) hb5).trans s4
  have HTH := Lib.hid hth
  clear hc1 hc2 hS3 hst hx hth
  refine wp_region_held_drew (S := (fun w' => (w'.cell? ⟨gp, 1, none⟩ = some (.slice (some ⟨b2, f2, none⟩) P.ths.length d1) ∧ w'.cell? ⟨b2, f2 + k, none⟩ = some (.slice (some ⟨b5, f5, none⟩) P.ths[k].length cs) ∧ w'.cell? ⟨gs, 1, none⟩ = some (.slice (some ⟨b1, f1, none⟩) s.ths.length c1) ∧ w'.cell? ⟨b1, f1 + k * 4, none⟩ = some (.int .i64 (n : Int)) ∧ w'.cell? ⟨b5, f5 + n * 5, none⟩ = some (.int .i64 op) ∧ w'.cell? ⟨b5, f5 + n * 5 + 1, none⟩ = some (.int .i64 rg) ∧ w'.cell? ⟨b5, f5 + n * 5 + 2, none⟩ = some (.int .i64 lc) ∧ w'.cell? ⟨b5, f5 + n * 5 + 3, none⟩ = some (.int .i64 nn) ∧ w'.cell? ⟨b5, f5 + n * 5 + 4, none⟩ = some (.int .i64 tn) ∧ True) ∧ Below W3.heap.size W3 w')) (by kernel_rfl) ⟨⟨x1, z0, y1, a0, s0, s1, s2, s3, s4, trivial⟩, below_drewN (Below.refl _ _) 1⟩ (fun hHeld => ?_)
  obtain ⟨Xs, hXs⟩ : ∃ W, W = W3.drew := ⟨_, rfl⟩
  have HXs := Lib.hid (show Below W3.heap.size W3 Xs from by rw [hXs]; exact below_drewN (Below.refl _ _) 1)
  rw [← hXs] at hHeld ⊢
  clear hXs
  refine wpAnyH_take (i := 0) (v := ?_) rfl (by kernel_rfl) (by kernel_rfl) (by kernel_rfl) (fun _ _ _ h => h) (Or.inl ⟨by rfl, ?_⟩) (by assumption) ?_
  rotate_left
  · intro w hSw; (try dsimp only at hSw); go_simp; (try with_reducible rfl)
  (try simp only [Act.put, pt8])
  refine wpAnyH_take (i := 1) (v := ?_) rfl (by kernel_rfl) (by kernel_rfl) (by kernel_rfl) (fun _ _ _ h => h) (Or.inl ⟨by rfl, ?_⟩) (by assumption) ?_
  rotate_left
  · intro w hSw; (try dsimp only at hSw); go_simp; (try with_reducible rfl)
  (try simp only [Act.put, pt8])
  refine wpAnyH_take (i := 2) (v := ?_) rfl (by kernel_rfl) (by kernel_rfl) (by kernel_rfl) (fun _ _ _ h => h) (Or.inl ⟨by rfl, ?_⟩) (by assumption) ?_
  rotate_left
  · intro w hSw; (try dsimp only at hSw); go_simp; (try with_reducible rfl)
  (try simp only [Act.put, pt8])
  refine wpAnyH_take (i := 3) (v := ?_) rfl (by kernel_rfl) (by kernel_rfl) (by kernel_rfl) (fun _ _ _ h => h) (Or.inl ⟨by rfl, ?_⟩) (by assumption) ?_
  rotate_left
  · intro w hSw; (try dsimp only at hSw); go_simp; (try with_reducible rfl)
  (try simp only [Act.put, pt8])
  refine wpAnyH_take (i := 4) (v := ?_) rfl (by kernel_rfl) (by kernel_rfl) (by kernel_rfl) (fun _ _ _ h => h) (Or.inl ⟨by rfl, ?_⟩) (by assumption) ?_
  rotate_left
  · intro w hSw; (try dsimp only at hSw); go_simp; (try with_reducible rfl)
  (try simp only [Act.put, pt8])
  refine wpAnyH_take (i := 5) (v := ?_) rfl (by kernel_rfl) (by kernel_rfl) (by kernel_rfl) (fun _ _ _ h => h) (Or.inl ⟨by rfl, ?_⟩) (by assumption) ?_
  rotate_left
  · intro w hSw; (try dsimp only at hSw); go_simp; (try with_reducible rfl)
  (try simp only [Act.put, pt8])
  refine wpAnyH_take (i := 6) (v := ?_) rfl (by kernel_rfl) (by kernel_rfl) (by kernel_rfl) (fun _ _ _ h => h) (Or.inl ⟨by rfl, ?_⟩) (by assumption) ?_
  rotate_left
  · intro w hSw; (try dsimp only at hSw); go_simp; (try with_reducible rfl)
  (try simp only [Act.put, pt8])
  refine wpAnyH_take (i := 7) (v := ?_) rfl (by kernel_rfl) (by kernel_rfl) (by kernel_rfl) (fun _ _ _ h => h) (Or.inl ⟨by rfl, ?_⟩) (by assumption) ?_
  rotate_left
  · intro w hSw; (try dsimp only at hSw); go_simp; (try with_reducible rfl)
  (try simp only [Act.put, pt8])
  refine wpAnyH_take (i := 8) (v := ?_) rfl (by kernel_rfl) (by kernel_rfl) (by kernel_rfl) (fun _ _ _ h => h) (Or.inl ⟨by rfl, ?_⟩) (by assumption) ?_
  rotate_left
  · intro w hSw; (try dsimp only at hSw); go_simp; (try with_reducible rfl)
  (try simp only [Act.put, pt8])
  refine wpAnyH_take (i := 9) (v := ?_) rfl (by kernel_rfl) (by kernel_rfl) (by kernel_rfl) (fun _ _ _ h => h) (Or.inl ⟨by rfl, ?_⟩) (by assumption) ?_
  rotate_left
  · intro w hSw; (try dsimp only at hSw); go_simp; (try with_reducible rfl)
  (try simp only [Act.put, pt8])
  refine wpAnyH_take (i := 10) (v := ?_) rfl (by kernel_rfl) (by kernel_rfl) (by kernel_rfl) (fun _ _ _ h => h) (Or.inl ⟨by rfl, ?_⟩) (by assumption) ?_
  rotate_left
  · intro w hSw; (try dsimp only at hSw); go_simp; (try with_reducible rfl)
  (try simp only [Act.put, pt8])
  refine wpAnyH_take (i := 11) (v := ?_) rfl (by kernel_rfl) (by kernel_rfl) (by kernel_rfl) (fun _ _ _ h => h) (Or.inl ⟨by rfl, ?_⟩) (by assumption) ?_
  rotate_left
  · intro w hSw; (try dsimp only at hSw); go_simp; (try with_reducible rfl)
  (try simp only [Act.put, pt8])
  refine wpAnyH_take (i := 12) (v := ?_) rfl (by kernel_rfl) (by kernel_rfl) (by kernel_rfl) (fun _ _ _ h => h) (Or.inl ⟨by rfl, ?_⟩) (by assumption) ?_
  rotate_left
  · intro w hSw; (try dsimp only at hSw); go_simp; (try with_reducible rfl)
  (try simp only [Act.put, pt8])
  refine wpAnyH_ready (rs := [13]) (by kernel_rfl) (by simp) ?_
  refine AllReadyH.cons rfl (fun K hK => ?_) AllReadyH.nil
  have HBA := Lib.hid (below_al hHeld.2 (.cells #[.int .i64 0, .int .i64 0, .int .i64 0, .int .i64 0, .int .i64 0] 70))
  go_simp
  refine hK.out _ _ ⟨⟨kc HBA.out x1, kc HBA.out z0, kc HBA.out y1, kc HBA.out a0, kc HBA.out s0, kc HBA.out s1, kc HBA.out s2, kc HBA.out s3, kc HBA.out s4, trivial⟩, HBA.out⟩ (fun hHeld => ?_)
  clear hK K
  (try simp only [Act.put, pt8])
  obtain ⟨Xa, hXa⟩ : ∃ W, W = Xs.alloc (.cells #[.int .i64 0, .int .i64 0, .int .i64 0, .int .i64 0, .int .i64 0] 70) := ⟨_, rfl⟩
  obtain ⟨g7, hg7⟩ : ∃ g, g = Xs.heap.size := ⟨_, rfl⟩
  rw [← hXa] at hHeld HBA ⊢
  (try rw [← hg7])
  have HQa := Lib.hid (show BoxC Xa g7 70 #[.int .i64 0, .int .i64 0, .int .i64 0, .int .i64 0, .int .i64 0] from by rw [hXa, hg7]; exact BoxC.new Xs _ _)
  have HGa := Lib.hid (show W3.heap.size ≤ g7 from by rw [hg7]; exact HXs.out.size)
  clear hXa hg7
  refine wpAnyH_ready (rs := [14]) (by kernel_rfl) (by simp) ?_
  refine AllReadyH.cons rfl (fun K hK => ?_) AllReadyH.nil
  have q0 := HQa.out.cell 0 _ rfl
  have q1 := HQa.out.cell 1 _ rfl
  have q2 := HQa.out.cell 2 _ rfl
  have q3 := HQa.out.cell 3 _ rfl
  have q4 := HQa.out.cell 4 _ rfl
  have u0 := HQa.out.frozen 0
  have u1 := HQa.out.frozen 1
  have u2 := HQa.out.frozen 2
  have u3 := HQa.out.frozen 3
  have u4 := HQa.out.frozen 4
  have HBS := Lib.hid (show Below W3.heap.size W3 (((((Xa.setCell ⟨g7, 0, none⟩ (.int .i64 op)).setCell ⟨g7, 1, none⟩ (.int .i64 rg)).setCell ⟨g7, 2, none⟩ (.int .i64 lc)).setCell ⟨g7, 3, none⟩ (.int .i64 nn)).setCell ⟨g7, 4, none⟩ (.int .i64 tn)) from ((((HBA.out.setCell (p := ⟨g7, 0, none⟩) HGa.out _).setCell (p := ⟨g7, 1, none⟩) HGa.out _).setCell (p := ⟨g7, 2, none⟩) HGa.out _).setCell (p := ⟨g7, 3, none⟩) HGa.out _).setCell (p := ⟨g7, 4, none⟩) HGa.out _)
  have HQs := Lib.hid (show BoxC (((((Xa.setCell ⟨g7, 0, none⟩ (.int .i64 op)).setCell ⟨g7, 1, none⟩ (.int .i64 rg)).setCell ⟨g7, 2, none⟩ (.int .i64 lc)).setCell ⟨g7, 3, none⟩ (.int .i64 nn)).setCell ⟨g7, 4, none⟩ (.int .i64 tn)) g7 70 #[.int .i64 op, .int .i64 rg, .int .i64 lc, .int .i64 nn, .int .i64 tn] from ((((HQa.out.set 0 _).set 1 _).set 2 _).set 3 _).set 4 _)
  go_simp
  refine hK.out _ _ ⟨⟨kc HBS.out x1, kc HBS.out z0, kc HBS.out y1, kc HBS.out a0, kc HBS.out s0, kc HBS.out s1, kc HBS.out s2, kc HBS.out s3, kc HBS.out s4, trivial⟩, HBS.out⟩ (fun hHeld => ?_)
  clear q0 q1 q2 q3 q4 u0 u1 u2 u3 u4
  clear hK K
  (try simp only [Act.put, pt8])
  refine wpAnyH_done (by kernel_rfl) ?_ _
  obtain ⟨X1, hX1⟩ : ∃ W, W = ((((Xa.setCell ⟨g7, 0, none⟩ (.int .i64 op)).setCell ⟨g7, 1, none⟩ (.int .i64 rg)).setCell ⟨g7, 2, none⟩ (.int .i64 lc)).setCell ⟨g7, 3, none⟩ (.int .i64 nn)).setCell ⟨g7, 4, none⟩ (.int .i64 tn) := ⟨_, rfl⟩
  rw [← hX1] at HBS HQs ⊢
  have HB31 := Lib.hid HBS.out
  have HBX1 := Lib.hid (chain HB3.out HBS.out)
  clear hX1 HQa HBA HBS HXs HGa hHeld x0 x1 y0 y1 z0 a0 s0 s1 s2 s3 s4
  have x0 := (HX.out.below HB31.out HX.out.lt).cell 0 _ rfl
  have x1 := (HX.out.below HB31.out HX.out.lt).cell 1 _ rfl
  have y0 := (HY.out.below HB31.out HY.out.lt).cell 0 _ rfl
  have y1 := (HY.out.below HB31.out HY.out.lt).cell 1 _ rfl
  go_wp2_with fail
  refine (HST.out _ HBX1.out).mono ?_
  rintro e w2 ⟨vm, vt, ps, rfl, hos, hb2'⟩
  rw [HAE.out]
  rw [HSE.out] at hos
  obtain ⟨Am, cm, rfl⟩ := own_slice (n := s.mem.length) (show w2.ownsRow _ _ 1 vm s.mem.length _ from by have e := hos.mem; unfold OwnI at e; rwa [stM_len] at e)
  obtain ⟨Av, cv, rfl⟩ := own_slice (n := s.ths.length) (by have e := hos.ths; rwa [List.length_set] at e)
  have HO2 := Lib.hid hos
  have HB2 := Lib.hid hb2'
  clear hos hb2' x0 x1 y0 y1 HST
  go_upto_region 3 with fail
  obtain ⟨X4, hX4⟩ : ∃ W, W = w2.alloc (.cells #[.slice Am s.mem.length cm, .slice Av s.ths.length cv] 62) := ⟨_, rfl⟩
  obtain ⟨gn, hgn⟩ : ∃ g, g = w2.heap.size := ⟨_, rfl⟩
  have HQN := Lib.hid (show BoxC X4 gn 62 #[.slice Am s.mem.length cm, .slice Av s.ths.length cv] from by rw [hX4, hgn]; exact BoxC.new w2 _ _)
  have HX14 := Lib.hid (show Below X1.heap.size X1 X4 from by rw [hX4]; exact below_al HB2.out _)
  have HO4 := Lib.hid (show OwnSt X1.heap.size X4 (.slice Am s.mem.length cm) (.slice Av s.ths.length cv) ⟨ScM.stM ⟨op, rg, lc, nn, tn⟩ s.mem xr, s.ths.set k (stT ⟨op, rg, lc, nn, tn⟩ s.mem ⟨(n : Int), xr, xe, xb⟩)⟩ ps from by rw [hX4]; exact HO2.out.below (below_al (Below.refl _ _) _))
  rw [← hX4]
  (try rw [← hgn])
  clear hX4 hgn HO2 HB2
  have HX34 := Lib.hid (chain HB31.out HX14.out)
  have HBX := Lib.hid (chain HBX1.out HX14.out)
  have HRR := Lib.hid (HR.out.below HX34.out HR.out.lt)
  have HQ7 := Lib.hid (HQs.out.below HX14.out HQs.out.lt)
  obtain ⟨vr, vb, hpk⟩ := HO4.out.pk (k := k) (by simpa using hks)
  simp only [List.getElem_set_self] at hpk
  obtain ⟨hkp, hpe⟩ := List.getElem?_eq_some_iff.1 hpk
  obtain ⟨gt, cv', cur, hev, hgt, hbv, t0, t1, t2, t3⟩ := HO4.out.row hkp
  rw [List.length_set] at hev
  injection hev with hev1 hev3 hev2
  clear hev3
  subst hev1 hev2
  rw [hpe] at t1 t3
  have HPK' := Lib.hid hpk
  have HOE := Lib.hid (HO4.out.each _ (List.getElem_mem hkp))
  rw [hpe] at HOE
  have HBV := Lib.hid hbv
  have HGT := Lib.hid hgt
  clear hpk hbv hgt hpe t0 t2
  have y0 := (HY.out.below HX34.out HY.out.lt).cell 0 _ rfl
  have q1' := HQN.out.cell 1 _ rfl
  have p0 := HQ7.out.cell 0 _ rfl
  go_upto_region 4 with fail
  clear q1'
  by_cases h2 : op = 2
  · subst h2
    obtain ⟨j, rfl⟩ : ∃ j : Nat, rg = j := ⟨rg.toNat, by have := (HPX.out.reg (by rfl)).1; dsimp only at this; omega⟩
    have hj4 : j < xr.length := by have h := (HPX.out.reg (by rfl)).2; have h' := HXR.out; dsimp only at h h'; omega
    have HT := Lib.hid (show stT ⟨2, (j : Int), lc, nn, tn⟩ s.mem ⟨(n : Int), xr, xe, xb⟩ = ⟨(n : Int) + 1, xr.set j (nth s.mem lc), xe, xb⟩ from by simp [stT, stR, stE, jumps])
    have HM := Lib.hid (show ScM.stM ⟨2, (j : Int), lc, nn, tn⟩ s.mem xr = s.mem from by simp [ScM.stM])
    rw [HT.out, HM.out] at HO4
    rw [HT.out] at HPK'
    obtain ⟨n9, b9, HVV⟩ : ∃ n9 b9, Hid (viewV xb s.mem lc = .tuple #[.int .i64 n9, .bool b9] ∧ n9 = (BfM.view xb s.mem lc).getD 0) := by
      unfold viewV
      cases BfM.view xb s.mem lc with
      | none => exact ⟨0, false, Lib.hid ⟨rfl, rfl⟩⟩
      | some n => exact ⟨n, true, Lib.hid ⟨rfl, rfl⟩⟩
    have HF3 := Lib.hid (show tsS ⟨2, (j : Int), lc, nn, tn⟩ s k ⟨(n : Int), xr, xe, xb⟩ = ⟨s.mem, s.ths.set k ⟨(n : Int) + 1, xr.set j n9, xe, xb⟩⟩ from by unfold tsS; rw [if_pos rfl, HVV.out.2]; simp)
    dsimp only at HOE
    rw [HT.out] at HOE
    obtain ⟨gv, cr, curr, hvr, hgv, hbr, hcr⟩ := own_nu (l := xr.set j (nth s.mem lc)) HOE.out.1 (j := j) (by simpa using hj4)
    obtain ⟨Ab, cb, hvb⟩ := own_slice (n := xb.length) HOE.out.2.1
    subst hvr hvb
    have HBR := Lib.hid hbr
    have HGV := Lib.hid hgv
    have HCR := Lib.hid hcr
    clear hbr hgv hcr
    have HN1 := Lib.hid (HBV.out.unlike HBR.out (by decide))
    have HN2 := Lib.hid (HQ7.out.unlike HBR.out (by decide))
    have HN3 := Lib.hid (show gs ≠ gv from by have h1 := HGS.out; have h2 := HGV.out; have h3 := HB31.out.size; omega)
    have HVW := Lib.hid (fun W (hW' : Below X4.heap.size X4 W) => bview_any lc W (Rw.own (own_below HOE.out.2.1 hW') (Nat.le_refl _)) ((HUM.out.below ((chain HBX.out hW').mono hBB)).more (Nat.le_trans hBB (chain HBX.out hW').size)) (Nat.le_refl _) HBL.out (by omega))
    have p1 := HQ7.out.cell 1 _ rfl
    have p2 := HQ7.out.cell 2 _ rfl
    go_upto_region 6 with fail
    clear p0
    refine wp_region_held_drew (S := (fun w' => w'.cell? ⟨gt, k * 4 + 1, none⟩ = some (.slice (some ⟨gv, 0, none⟩) (xr.set j (nth s.mem lc)).length cr) ∧ w'.cell? ⟨g7, 1, none⟩ = some (.int .i64 (j : Int)) ∧ w'.cell? ⟨gt, k * 4 + 3, none⟩ = some (.slice Ab xb.length cb) ∧ w'.cell? ⟨gs, 0, none⟩ = some (.slice A7 s.mem.length c7) ∧ w'.cell? ⟨g7, 2, none⟩ = some (.int .i64 lc) ∧ True)) (by kernel_rfl) ⟨t1, p1, t3, y0, p2, trivial⟩ (fun hHeld => ?_)
    obtain ⟨Xs, hXs⟩ : ∃ W, W = X4.drew := ⟨_, rfl⟩
    have HXs := Lib.hid (show Below X4.heap.size X4 Xs from by rw [hXs]; exact below_drewN (Below.refl _ _) 1)
    rw [← hXs] at hHeld ⊢
    clear hXs
    refine wpAnyH_take (i := 0) (v := ?_) rfl (by kernel_rfl) (by kernel_rfl) (by kernel_rfl) (fun _ _ _ h => h) (Or.inl ⟨by rfl, ?_⟩) (by assumption) ?_
    rotate_left
    · intro w hSw; (try dsimp only at hSw); go_simp; (try with_reducible rfl)
    (try simp only [Act.put, pt8])
    refine wpAnyH_take (i := 1) (v := ?_) rfl (by kernel_rfl) (by kernel_rfl) (by kernel_rfl) (fun _ _ _ h => h) (Or.inl ⟨by rfl, ?_⟩) (by assumption) ?_
    rotate_left
    · intro w hSw; (try dsimp only at hSw); go_simp; (try with_reducible rfl)
    (try simp only [Act.put, pt8])
    refine wpAnyH_take (i := 2) (v := ?_) rfl (by kernel_rfl) (by kernel_rfl) (by kernel_rfl) (fun _ _ _ h => h) (Or.inl ⟨by rfl, ?_⟩) (by assumption) ?_
    rotate_left
    · intro w hSw; (try dsimp only at hSw); go_simp; (try with_reducible rfl)
    (try simp only [Act.put, pt8])
    refine wpAnyH_take (i := 3) (v := ?_) rfl (by kernel_rfl) (by kernel_rfl) (by kernel_rfl) (fun _ _ _ h => h) (Or.inl ⟨by rfl, ?_⟩) (by assumption) ?_
    rotate_left
    · intro w hSw; (try dsimp only at hSw); go_simp; (try with_reducible rfl)
    (try simp only [Act.put, pt8])
    refine wpAnyH_take (i := 4) (v := ?_) rfl (by kernel_rfl) (by kernel_rfl) (by kernel_rfl) (fun _ _ _ h => h) (Or.inl ⟨by rfl, ?_⟩) (by assumption) ?_
    rotate_left
    · intro w hSw; (try dsimp only at hSw); go_simp; (try with_reducible rfl)
    (try simp only [Act.put, pt8])
    refine wpAnyH_take (i := 5) (v := ?_) rfl (by kernel_rfl) (by kernel_rfl) (by kernel_rfl) (fun _ _ _ h => h) (Or.inl ⟨by rfl, ?_⟩) (by assumption) ?_
    rotate_left
    · intro w hSw; (try dsimp only at hSw); go_simp; (try with_reducible rfl)
    (try simp only [Act.put, pt8])
    refine wpAnyH_take (i := 6) (v := ?_) rfl (by kernel_rfl) (by kernel_rfl) (by kernel_rfl) (fun _ _ _ h => h) (Or.inl ⟨by rfl, ?_⟩) (by assumption) ?_
    rotate_left
    · intro w hSw; (try dsimp only at hSw); go_simp; (try with_reducible rfl)
    (try simp only [Act.put, pt8])
    refine wpAnyH_take (i := 7) (v := ?_) rfl (by kernel_rfl) (by kernel_rfl) (by kernel_rfl) (fun _ _ _ h => h) (Or.inl ⟨by rfl, ?_⟩) (by assumption) ?_
    rotate_left
    · intro w hSw; (try dsimp only at hSw); go_simp; (try with_reducible rfl)
    (try simp only [Act.put, pt8])
    refine wpAnyH_take (i := 8) (v := ?_) rfl (by kernel_rfl) (by kernel_rfl) (by kernel_rfl) (fun _ _ _ h => h) (Or.inl ⟨by rfl, ?_⟩) (by assumption) ?_
    rotate_left
    · intro w hSw; (try dsimp only at hSw); go_simp; (try with_reducible rfl)
    (try simp only [Act.put, pt8])
    refine wpAnyH_take (i := 9) (v := ?_) rfl (by kernel_rfl) (by kernel_rfl) (by kernel_rfl) (fun _ _ _ h => h) (Or.inl ⟨by rfl, ?_⟩) (by assumption) ?_
    rotate_left
    · intro w hSw; (try dsimp only at hSw); go_simp; (try with_reducible rfl)
    (try simp only [Act.put, pt8])
    refine wpAnyH_take (i := 10) (v := ?_) rfl (by kernel_rfl) (by kernel_rfl) (by kernel_rfl) (fun _ _ _ h => h) (Or.inl ⟨by rfl, ?_⟩) (by assumption) ?_
    rotate_left
    · intro w hSw; (try dsimp only at hSw); go_simp; (try with_reducible rfl)
    (try simp only [Act.put, pt8])
    refine wpAnyH_take (i := 11) (v := ?_) rfl (by kernel_rfl) (by kernel_rfl) (by kernel_rfl) (fun _ _ _ h => h) (Or.inl ⟨by rfl, ?_⟩) (by assumption) ?_
    rotate_left
    · intro w hSw; (try dsimp only at hSw); go_simp; (try with_reducible rfl)
    (try simp only [Act.put, pt8])
    refine wpAnyH_take (i := 12) (v := ?_) rfl (by kernel_rfl) (by kernel_rfl) (by kernel_rfl) (fun _ _ _ h => h) (Or.inl ⟨by rfl, ?_⟩) (by assumption) ?_
    rotate_left
    · intro w hSw; (try dsimp only at hSw); go_simp; (try with_reducible rfl)
    (try simp only [Act.put, pt8])
    refine wpAnyH_take (i := 13) (v := ?_) rfl (by kernel_rfl) (by kernel_rfl) (by kernel_rfl) (fun _ _ _ h => h) (Or.inl ⟨by rfl, ?_⟩) (by assumption) ?_
    rotate_left
    · intro w hSw; (try dsimp only at hSw); go_simp; (try with_reducible rfl)
    (try simp only [Act.put, pt8])
    refine wpAnyH_ready (rs := [14]) (by kernel_rfl) (by simp) ?_
    refine AllReadyH.cons rfl (fun K hK => ?_) AllReadyH.nil
    obtain ⟨q0, q1, q2, q3, q4, -⟩ := hHeld
    go_simp
    refine (HVW.out _ HXs.out).mono ?_
    rintro e X5 ⟨rfl, hb⟩
    rw [HVV.out.1]
    have HB5 := Lib.hid (show Below X4.heap.size X4 X5 from chain HXs.out hb)
    refine hK.out _ _ ⟨kc hb q0, kc hb q1, kc hb q2, kc hb q3, kc hb q4, trivial⟩ (fun hHeld => ?_)
    clear q0 q1 q2 q3 q4
    clear hK K
    (try simp only [Act.put, pt8])
    clear hb
    have HV5 := Lib.hid (HBR.out.below HB5.out HBR.out.lt)
    have v5 := HV5.out.frozen j
    have e5 := kc HB5.out HCR.out
    refine wpAnyH_take (i := 15) (v := ?_) rfl (by kernel_rfl) (by kernel_rfl) (by kernel_rfl) (fun _ _ _ h => h) (Or.inl ⟨by rfl, ?_⟩) (by assumption) ?_
    rotate_left
    · intro w hSw; (try dsimp only at hSw); go_simp; (try with_reducible rfl)
    (try simp only [Act.put, pt8])
    refine wpAnyH_take (i := 16) (v := ?_) rfl (by kernel_rfl) (by kernel_rfl) (by kernel_rfl) (fun _ _ _ h => h) (Or.inl ⟨by rfl, ?_⟩) (by assumption) ?_
    rotate_left
    · intro w hSw; (try dsimp only at hSw); go_simp; (try with_reducible rfl)
    (try simp only [Act.put, pt8])
    refine wpAnyH_take (i := 17) (v := ?_) rfl (by kernel_rfl) (by kernel_rfl) (by kernel_rfl) (fun _ _ _ h => h) (Or.inl ⟨by rfl, ?_⟩) (by assumption) ?_
    rotate_left
    · intro w hSw; (try dsimp only at hSw); go_simp; (try with_reducible rfl)
    (try simp only [Act.put, pt8])
    refine wpAnyH_take (i := 18) (v := ?_) rfl (by kernel_rfl) (by kernel_rfl) (by kernel_rfl) (fun _ _ _ h => h) (Or.inl ⟨by rfl, ?_⟩) (by assumption) ?_
    rotate_left
    · intro w hSw; (try dsimp only at hSw); go_simp; (try with_reducible rfl)
    (try simp only [Act.put, pt8])
    refine wpAnyH_ready (rs := [19]) (by kernel_rfl) (by simp) ?_
    refine AllReadyH.cons rfl (fun K hK => ?_) AllReadyH.nil
    obtain ⟨q0, q1, q2, q3, q4, -⟩ := hHeld
    go_simp
    refine hK.out _ _ ⟨st_ne HN1.out q0, st_ne HN2.out q1, st_ne HN1.out q2, st_ne HN3.out q3, st_ne HN2.out q4, trivial⟩ (fun hHeld => ?_)
    clear q0 q1 q2 q3 q4
    clear hK K
    (try simp only [Act.put, pt8])
    refine wpAnyH_done (by kernel_rfl) ?_ _
    obtain ⟨X6, hX6⟩ : ∃ W, W = X5.setCell ⟨gv, j, none⟩ (.int .i64 n9) := ⟨_, rfl⟩
    rw [← hX6] at hHeld ⊢
    have HO6 := Lib.hid (show OwnSt X1.heap.size X6 (.slice Am s.mem.length cm) (.slice (some ⟨gt, 0, none⟩) s.ths.length cv) ⟨s.mem, s.ths.set k ⟨(n : Int) + 1, xr.set j n9, xe, xb⟩⟩ (ps.set k ⟨⟨(n : Int) + 1, (xr.set j (nth s.mem lc)).set j n9, xe, xb⟩, .slice (some ⟨gv, 0, none⟩) (xr.set j (nth s.mem lc)).length cr, .slice Ab xb.length cb⟩) from by
      rw [hX6]
      have := own_setR (j := j) (z := n9) (HO4.out.below HB5.out) HPK'.out
      exact this.cast (by rw [List.set_set, List.set_set]))
    have HQ6 := Lib.hid (show BoxC X6 gn 62 #[(.slice Am s.mem.length cm), (.slice (some ⟨gt, 0, none⟩) s.ths.length cv)] from by rw [hX6]; exact (HQN.out.below HB5.out HQN.out.lt).other ((HQN.out.below HB5.out HQN.out.lt).unlike HV5.out (by decide)) _ _)
    have HRR6 := Lib.hid (show BoxC X6 gr 62 #[.slice none 0 0, .slice none 0 0] from by rw [hX6]; exact (HRR.out.below HB5.out HRR.out.lt).other ((HRR.out.below HB5.out HRR.out.lt).unlike HV5.out (by decide)) _ _)
    have HB6 := Lib.hid (show Below w.heap.size w X6 from by rw [hX6]; exact (chain HBX.out HB5.out).setCell (p := ⟨gv, j, none⟩) (Nat.le_trans HBX1.out.size HGV.out) _)
    clear hX6 hHeld t1 p1 t3 y0 p2 v5 e5
    have y0 := HQ6.out.cell 0 _ rfl
    have y1 := HQ6.out.cell 1 _ rfl
    have r0 := HRR6.out.cell 0 _ rfl
    have r1 := HRR6.out.cell 1 _ rfl
    have f0 := HRR6.out.frozen 0
    have f1 := HRR6.out.frozen 1
    obtain ⟨W9, hW9⟩ : ∃ W, W = (X6.setCell ⟨gr, 0, none⟩ (.slice Am s.mem.length cm)).setCell ⟨gr, 1, none⟩ (.slice (some ⟨gt, 0, none⟩) s.ths.length cv) := ⟨_, rfl⟩
    have HR9 := Lib.hid (show BoxC W9 gr 62 #[(.slice Am s.mem.length cm), (.slice (some ⟨gt, 0, none⟩) s.ths.length cv)] from by rw [hW9]; exact (HRR6.out.set 0 _).set 1 _)
    have HO9 := Lib.hid (show OwnSt W3.heap.size W9 (.slice Am s.mem.length cm) (.slice (some ⟨gt, 0, none⟩) s.ths.length cv) (tsS ⟨2, (j : Int), lc, nn, tn⟩ s k ⟨(n : Int), xr, xe, xb⟩) (ps.set k ⟨⟨(n : Int) + 1, (xr.set j (nth s.mem lc)).set j n9, xe, xb⟩, .slice (some ⟨gv, 0, none⟩) (xr.set j (nth s.mem lc)).length cr, .slice Ab xb.length cb⟩) from by
      rw [hW9]
      exact (((HO6.out.base HB31.out.size).cast HF3.out.symm).box HRR6.out (by decide) (by decide) (by decide) 0 _).box (HRR6.out.set 0 _) (by decide) (by decide) (by decide) 1 _)
    have HB9 := Lib.hid (show Below w.heap.size w W9 from by rw [hW9]; exact (HB6.out.setCell (p := ⟨gr, 0, none⟩) HGR.out _).setCell (p := ⟨gr, 1, none⟩) HGR.out _)
    have HW9 := Lib.hid hW9
    clear hW9
    go_wp2_with fail
    rw [← HW9.out]
    clear r0 r1 f0 f1
    have r0 := HR9.out.cell 0 _ rfl
    have r1 := HR9.out.cell 1 _ rfl
    have hz := HCO.out
    refine bodyPost_ret (v := .agg #[(.slice Am s.mem.length cm), (.slice (some ⟨gt, 0, none⟩) s.ths.length cv)]) (by simp [results, Try.results66, go_sem, r0, r1, hz]) rfl ⟨_, _, _, rfl, HO9.out.base HB3.out.size, HB9.out⟩

  have e2 : ¬ ((op == 2) = true) := by simpa using h2
  by_cases h3 : op = 3
  · subst h3
    have HLO := Lib.hid (HPX.out.loc (by rfl))
    obtain ⟨l, rfl⟩ : ∃ l : Nat, lc = l := ⟨lc.toNat, by have h := HLO.out.1; dsimp only at h; omega⟩
    have hl4 : l < s.mem.length := by have h := HLO.out.2; dsimp only at h; omega
    obtain ⟨z, hz⟩ : ∃ z, z = nth xr rg := ⟨_, rfl⟩
    have HT := Lib.hid (show stT ⟨3, rg, (l : Int), nn, tn⟩ s.mem ⟨(n : Int), xr, xe, xb⟩ = ⟨(n : Int) + 1, xr, xe, xb⟩ from by simp [stT, stR, stE, jumps])
    have HM := Lib.hid (show ScM.stM ⟨3, rg, (l : Int), nn, tn⟩ s.mem xr = s.mem.set l z from by simp [ScM.stM, hz])
    have HF3 := Lib.hid (show tsS ⟨3, rg, (l : Int), nn, tn⟩ s k ⟨(n : Int), xr, xe, xb⟩ = ⟨s.mem, s.ths.set k ⟨(n : Int) + 1, xr, xe, xb ++ [⟨(l : Int), z⟩]⟩⟩ from by simp [tsS, hz])
    clear hz
    rw [HT.out, HM.out] at HO4
    rw [HT.out] at HPK'
    dsimp only at HOE
    rw [HT.out] at HOE
    obtain ⟨gm, cm', curm, hvm, hgm, hbm, hcm⟩ := own_nu (l := s.mem.set l z) HO4.out.mem (j := l) (by simpa using hl4)
    rw [List.length_set] at hvm
    injection hvm with hvm1 hvm3 hvm2
    clear hvm3
    subst hvm1 hvm2
    rw [List.getElem_set_self] at hcm
    obtain ⟨Ab, cb, hvb⟩ := own_slice (n := xb.length) HOE.out.2.1
    subst hvb
    have HBM := Lib.hid hbm
    have HGM := Lib.hid hgm
    have HMZ0 := Lib.hid hcm
    have mz := hcm
    clear hbm hgm hcm
    have HPU := Lib.hid (fun W (hW' : Below X4.heap.size X4 W) => bpush_any ⟨(l : Int), z⟩ W (Rw.own (own_below HOE.out.2.1 hW') (Nat.le_refl _)) (Nat.le_refl _) HBL.out)
    obtain ⟨b7, f7, hA7, hb7, hc7⟩ := HMR.out (by omega)
    subst hA7
    have HB0 := Lib.hid (show ∀ W, Below w.heap.size w W → W.cell? ⟨b7, f7 + l, none⟩ = some (.int .i64 s.mem[l]) from fun W hW => ((hW.mono hBB).cell (p := ⟨b7, f7 + l, none⟩) hb7).trans (hc7 l hl4))
    have HL7 := Lib.hid (show b7 < w.heap.size from Nat.lt_of_lt_of_le hb7 hBB)
    obtain ⟨m0, hm0⟩ : ∃ m0, m0 = s.mem[l] := ⟨_, rfl⟩
    rw [← hm0] at HB0
    have HM0 := Lib.hid hm0
    clear hc7 hb7 hm0
    have o0 := HQN.out.cell 0 _ rfl
    have p2 := HQ7.out.cell 2 _ rfl
    go_upto_region 9 with fail
    clear p0
    refine wp_region_held_drew (S := (fun w' => w'.cell? ⟨g7, 2, none⟩ = some (.int .i64 (l : Int)) ∧ w'.cell? ⟨gn, 0, none⟩ = some (.slice (some ⟨gm, 0, none⟩) s.mem.length cm) ∧ w'.cell? ⟨gm, l, none⟩ = some (.int .i64 z) ∧ True)) (by kernel_rfl) ⟨p2, o0, mz, trivial⟩ (fun hHeld => ?_)
    obtain ⟨Xs, hXs⟩ : ∃ W, W = X4.drew := ⟨_, rfl⟩
    have HXs := Lib.hid (show Below X4.heap.size X4 Xs from by rw [hXs]; exact below_drewN (Below.refl _ _) 1)
    rw [← hXs] at hHeld ⊢
    clear hXs
    have t3s := kc HXs.out t3
    refine wpAnyH_take (i := 0) (v := ?_) rfl (by kernel_rfl) (by kernel_rfl) (by kernel_rfl) (fun _ _ _ h => h) (Or.inl ⟨by rfl, ?_⟩) (by assumption) ?_
    rotate_left
    · intro w hSw; (try dsimp only at hSw); go_simp; (try with_reducible rfl)
    (try simp only [Act.put, pt8])
    refine wpAnyH_take (i := 1) (v := ?_) rfl (by kernel_rfl) (by kernel_rfl) (by kernel_rfl) (fun _ _ _ h => h) (Or.inl ⟨by rfl, ?_⟩) (by assumption) ?_
    rotate_left
    · intro w hSw; (try dsimp only at hSw); go_simp; (try with_reducible rfl)
    (try simp only [Act.put, pt8])
    refine wpAnyH_take (i := 2) (v := ?_) rfl (by kernel_rfl) (by kernel_rfl) (by kernel_rfl) (fun _ _ _ h => h) (Or.inl ⟨by rfl, ?_⟩) (by assumption) ?_
    rotate_left
    · intro w hSw; (try dsimp only at hSw); go_simp; (try with_reducible rfl)
    (try simp only [Act.put, pt8])
    refine wpAnyH_take (i := 3) (v := ?_) rfl (by kernel_rfl) (by kernel_rfl) (by kernel_rfl) (fun _ _ _ h => h) (Or.inl ⟨by rfl, ?_⟩) (by assumption) ?_
    rotate_left
    · intro w hSw; (try dsimp only at hSw); go_simp; (try with_reducible rfl)
    (try simp only [Act.put, pt8])
    refine wpAnyH_take (i := 5) (v := ?_) rfl (by kernel_rfl) (by kernel_rfl) (by kernel_rfl) (fun _ _ _ h => h) (Or.inl ⟨by rfl, ?_⟩) (by assumption) ?_
    rotate_left
    · intro w hSw; (try dsimp only at hSw); go_simp; (try with_reducible rfl)
    (try simp only [Act.put, pt8])
    refine wpAnyH_take (i := 6) (v := ?_) rfl (by kernel_rfl) (by kernel_rfl) (by kernel_rfl) (fun _ _ _ h => h) (Or.inl ⟨by rfl, ?_⟩) (by assumption) ?_
    rotate_left
    · intro w hSw; (try dsimp only at hSw); go_simp; (try with_reducible rfl)
    (try simp only [Act.put, pt8])
    refine wpAnyH_take (i := 7) (v := ?_) rfl (by kernel_rfl) (by kernel_rfl) (by kernel_rfl) (fun _ _ _ h => h) (Or.inl ⟨by rfl, ?_⟩) (by assumption) ?_
    rotate_left
    · intro w hSw; (try dsimp only at hSw); go_simp; (try with_reducible rfl)
    (try simp only [Act.put, pt8])
    refine wpAnyH_take (i := 8) (v := ?_) rfl (by kernel_rfl) (by kernel_rfl) (by kernel_rfl) (fun _ _ _ h => h) (Or.inl ⟨by rfl, ?_⟩) (by assumption) ?_
    rotate_left
    · intro w hSw; (try dsimp only at hSw); go_simp; (try with_reducible rfl)
    (try simp only [Act.put, pt8])
    refine wpAnyH_take (i := 9) (v := ?_) rfl (by kernel_rfl) (by kernel_rfl) (by kernel_rfl) (fun _ _ _ h => h) (Or.inl ⟨by rfl, ?_⟩) (by assumption) ?_
    rotate_left
    · intro w hSw; (try dsimp only at hSw); go_simp; (try with_reducible rfl)
    (try simp only [Act.put, pt8])
    refine wpAnyH_take (i := 10) (v := ?_) rfl (by kernel_rfl) (by kernel_rfl) (by kernel_rfl) (fun _ _ _ h => h) (Or.inl ⟨by rfl, ?_⟩) (by assumption) ?_
    rotate_left
    · intro w hSw; (try dsimp only at hSw); go_simp; (try with_reducible rfl)
    (try simp only [Act.put, pt8])
    refine wpAnyH_take (i := 11) (v := ?_) rfl (by kernel_rfl) (by kernel_rfl) (by kernel_rfl) (fun _ _ _ h => h) (Or.inl ⟨by rfl, ?_⟩) (by assumption) ?_
    rotate_left
    · intro w hSw; (try dsimp only at hSw); go_simp; (try with_reducible rfl)
    (try simp only [Act.put, pt8])
    refine wpAnyH_take (i := 12) (v := ?_) rfl (by kernel_rfl) (by kernel_rfl) (by kernel_rfl) (fun _ _ _ h => h) (Or.inl ⟨by rfl, ?_⟩) (by assumption) ?_
    rotate_left
    · intro w hSw; (try dsimp only at hSw); go_simp; (try with_reducible rfl)
    (try simp only [Act.put, pt8])
    refine wpAnyH_take (i := 13) (v := ?_) rfl (by kernel_rfl) (by kernel_rfl) (by kernel_rfl) (fun _ _ _ h => h) (Or.inl ⟨by rfl, ?_⟩) (by assumption) ?_
    rotate_left
    · intro w hSw; (try dsimp only at hSw); go_simp; (try with_reducible rfl)
    (try simp only [Act.put, pt8])
    refine wpAnyH_ready (rs := [4]) (by kernel_rfl) (by simp) ?_
    refine AllReadyH.cons rfl (fun K hK => ?_) AllReadyH.nil
    go_simp
    refine hK.out _ _ hHeld (fun hHeld => ?_)
    clear hK K
    (try simp only [Act.put, pt8])
    clear t3s
    refine wpAnyH_ready (rs := [14]) (by kernel_rfl) (by simp) ?_
    refine AllReadyH.cons rfl (fun K hK => ?_) AllReadyH.nil
    obtain ⟨q0, q1, q2, -⟩ := hHeld
    go_simp
    refine (HPU.out _ HXs.out).mono ?_
    rintro e X5 ⟨vu, rfl, hou, hb⟩
    have HB5 := Lib.hid (show Below X4.heap.size X4 X5 from chain HXs.out hb)
    obtain ⟨Bn, bn, rfl⟩ := own_slice (n := xb.length + 1) (show X5.ownsRow _ _ 2 vu (xb.length + 1) _ from by have e := hou; unfold OwnW at e; rw [List.length_append] at e; exact e)
    have HOU := Lib.hid (show OwnW X4.heap.size X5 _ _ from own_base hou HXs.out.size)
    refine hK.out _ _ ⟨kc hb q0, kc hb q1, kc hb q2, trivial⟩ (fun hHeld => ?_)
    clear q0 q1 q2
    clear hK K
    (try simp only [Act.put, pt8])
    clear hb hou
    have HV5 := Lib.hid (HBV.out.below HB5.out HBV.out.lt)
    have v5 := HV5.out.frozen (k * 4 + 3)
    have e5 := kc HB5.out t3
    have HM5 := Lib.hid (HBM.out.below HB5.out HBM.out.lt)
    have HQN5 := Lib.hid (HQN.out.below HB5.out HQN.out.lt)
    have HQ75 := Lib.hid (HQ7.out.below HB5.out HQ7.out.lt)
    refine wpAnyH_take (i := 15) (v := ?_) rfl (by kernel_rfl) (by kernel_rfl) (by kernel_rfl) (fun _ _ _ h => h) (Or.inl ⟨by rfl, ?_⟩) (by assumption) ?_
    rotate_left
    · intro w hSw; (try dsimp only at hSw); go_simp; (try with_reducible rfl)
    (try simp only [Act.put, pt8])
    refine wpAnyH_take (i := 16) (v := ?_) rfl (by kernel_rfl) (by kernel_rfl) (by kernel_rfl) (fun _ _ _ h => h) (Or.inl ⟨by rfl, ?_⟩) (by assumption) ?_
    rotate_left
    · intro w hSw; (try dsimp only at hSw); go_simp; (try with_reducible rfl)
    (try simp only [Act.put, pt8])
    refine wpAnyH_ready (rs := [17]) (by kernel_rfl) (by simp) ?_
    refine AllReadyH.cons rfl (fun K hK => ?_) AllReadyH.nil
    obtain ⟨q0, q1, q2, -⟩ := hHeld
    go_simp
    refine hK.out _ _ ⟨st_ne (HQ75.out.unlike HV5.out (by decide)) q0, st_ne (HQN5.out.unlike HV5.out (by decide)) q1, st_ne (HM5.out.unlike HV5.out (by decide)) q2, trivial⟩ (fun hHeld => ?_)
    clear q0 q1 q2
    clear hK K
    (try simp only [Act.put, pt8])
    refine wpAnyH_done (by kernel_rfl) ?_ _
    clear hHeld
    obtain ⟨X6, hX6⟩ : ∃ W, W = X5.setCell ⟨gt, k * 4 + 3, none⟩ (.slice Bn (xb.length + 1) bn) := ⟨_, rfl⟩
    have HO6 := Lib.hid (show OwnSt X1.heap.size X6 (.slice (some ⟨gm, 0, none⟩) s.mem.length cm) (.slice (some ⟨gt, 0, none⟩) s.ths.length cv) ⟨s.mem.set l z, s.ths.set k ⟨(n : Int) + 1, xr, xe, xb ++ [⟨(l : Int), z⟩]⟩⟩ (ps.set k ⟨⟨(n : Int) + 1, xr, xe, xb ++ [⟨(l : Int), z⟩]⟩, vr, .slice Bn (xb.length + 1) bn⟩) from by
      rw [hX6]
      have := (HO4.out.below HB5.out).setVB' HPK'.out (own_base HOU.out HX14.out.size)
      exact this.cast (by rw [List.set_set]))
    have HQ6 := Lib.hid (show BoxC X6 gn 62 #[(.slice (some ⟨gm, 0, none⟩) s.mem.length cm), (.slice (some ⟨gt, 0, none⟩) s.ths.length cv)] from by rw [hX6]; exact HQN5.out.other (HQN5.out.unlike HV5.out (by decide)) _ _)
    have HQ76 := Lib.hid (show BoxC X6 g7 70 _ from by rw [hX6]; exact HQ75.out.other (HQ75.out.unlike HV5.out (by decide)) _ _)
    have HM6 := Lib.hid (show BoxC X6 gm 3 _ from by rw [hX6]; exact HM5.out.other (HM5.out.unlike HV5.out (by decide)) _ _)
    have HRR5 := Lib.hid (HRR.out.below HB5.out HRR.out.lt)
    have HRR6 := Lib.hid (show BoxC X6 gr 62 #[.slice none 0 0, .slice none 0 0] from by rw [hX6]; exact HRR5.out.other (HRR5.out.unlike HV5.out (by decide)) _ _)
    have HB6 := Lib.hid (show Below w.heap.size w X6 from by rw [hX6]; exact (chain HBX.out HB5.out).setCell (p := ⟨gt, k * 4 + 3, none⟩) (Nat.le_trans HBX1.out.size HGT.out) _)
    have HB31X := Lib.hid (show Below W3.heap.size W3 X6 from by rw [hX6]; exact (chain HX34.out HB5.out).setCell (p := ⟨gt, k * 4 + 3, none⟩) (Nat.le_trans HB31.out.size HGT.out) _)
    have HMZ := Lib.hid (show X6.cell? ⟨gm, l, none⟩ = some (.int .i64 z) from by rw [hX6]; exact st_ne (HM5.out.unlike HV5.out (by decide)) (kc HB5.out HMZ0.out))
    rw [← hX6]
    clear hX6 v5 e5 o0 p2 mz y0 t3
    have o0 := HQ6.out.cell 0 _ rfl
    have p2 := HQ76.out.cell 2 _ rfl
    have y0 := (HY.out.below HB31X.out HY.out.lt).cell 0 _ rfl
    have b0 := HB0.out _ HB6.out
    have HE1 := Lib.hid (HQ76.out.unlike HM6.out (by decide))
    have HE2 := Lib.hid (HQ6.out.unlike HM6.out (by decide))
    have HE3 := Lib.hid (show gs ≠ gm from by have h1 := HGS.out; have h2 := HGM.out; have h3 := HB31.out.size; omega)
    have HE4 := Lib.hid (show b7 ≠ gm from by have h1 := HL7.out; have h2 := HGM.out; have h3 := HBX1.out.size; omega)
    go_upto_region 10 with fail
    refine wp_region_held_drew (S := (fun w' => w'.cell? ⟨g7, 2, none⟩ = some (.int .i64 (l : Int)) ∧ w'.cell? ⟨gn, 0, none⟩ = some (.slice (some ⟨gm, 0, none⟩) s.mem.length cm) ∧ w'.cell? ⟨gs, 0, none⟩ = some (.slice (some ⟨b7, f7, none⟩) s.mem.length c7) ∧ w'.cell? ⟨b7, f7 + l, none⟩ = some (.int .i64 m0) ∧ True)) (by kernel_rfl) ⟨p2, o0, y0, b0, trivial⟩ (fun hHeld => ?_)
    obtain ⟨X7, hX7⟩ : ∃ W, W = X6.drew := ⟨_, rfl⟩
    have HX7 := Lib.hid (show Below X6.heap.size X6 X7 from by rw [hX7]; exact below_drewN (Below.refl _ _) 1)
    rw [← hX7] at hHeld ⊢
    clear hX7
    have HM7 := Lib.hid (HM6.out.below HX7.out HM6.out.lt)
    refine wpAnyH_take (i := 0) (v := ?_) rfl (by kernel_rfl) (by kernel_rfl) (by kernel_rfl) (fun _ _ _ h => h) (Or.inl ⟨by rfl, ?_⟩) (by assumption) ?_
    rotate_left
    · intro w hSw; (try dsimp only at hSw); go_simp; (try with_reducible rfl)
    (try simp only [Act.put, pt8])
    refine wpAnyH_take (i := 1) (v := ?_) rfl (by kernel_rfl) (by kernel_rfl) (by kernel_rfl) (fun _ _ _ h => h) (Or.inl ⟨by rfl, ?_⟩) (by assumption) ?_
    rotate_left
    · intro w hSw; (try dsimp only at hSw); go_simp; (try with_reducible rfl)
    (try simp only [Act.put, pt8])
    refine wpAnyH_take (i := 2) (v := ?_) rfl (by kernel_rfl) (by kernel_rfl) (by kernel_rfl) (fun _ _ _ h => h) (Or.inl ⟨by rfl, ?_⟩) (by assumption) ?_
    rotate_left
    · intro w hSw; (try dsimp only at hSw); go_simp; (try with_reducible rfl)
    (try simp only [Act.put, pt8])
    refine wpAnyH_take (i := 3) (v := ?_) rfl (by kernel_rfl) (by kernel_rfl) (by kernel_rfl) (fun _ _ _ h => h) (Or.inl ⟨by rfl, ?_⟩) (by assumption) ?_
    rotate_left
    · intro w hSw; (try dsimp only at hSw); go_simp; (try with_reducible rfl)
    (try simp only [Act.put, pt8])
    refine wpAnyH_take (i := 4) (v := ?_) rfl (by kernel_rfl) (by kernel_rfl) (by kernel_rfl) (fun _ _ _ h => h) (Or.inl ⟨by rfl, ?_⟩) (by assumption) ?_
    rotate_left
    · intro w hSw; (try dsimp only at hSw); go_simp; (try with_reducible rfl)
    (try simp only [Act.put, pt8])
    refine wpAnyH_take (i := 5) (v := ?_) rfl (by kernel_rfl) (by kernel_rfl) (by kernel_rfl) (fun _ _ _ h => h) (Or.inl ⟨by rfl, ?_⟩) (by assumption) ?_
    rotate_left
    · intro w hSw; (try dsimp only at hSw); go_simp; (try with_reducible rfl)
    (try simp only [Act.put, pt8])
    refine wpAnyH_take (i := 6) (v := ?_) rfl (by kernel_rfl) (by kernel_rfl) (by kernel_rfl) (fun _ _ _ h => h) (Or.inl ⟨by rfl, ?_⟩) (by assumption) ?_
    rotate_left
    · intro w hSw; (try dsimp only at hSw); go_simp; (try with_reducible rfl)
    (try simp only [Act.put, pt8])
    refine wpAnyH_take (i := 7) (v := ?_) rfl (by kernel_rfl) (by kernel_rfl) (by kernel_rfl) (fun _ _ _ h => h) (Or.inl ⟨by rfl, ?_⟩) (by assumption) ?_
    rotate_left
    · intro w hSw; (try dsimp only at hSw); go_simp; (try with_reducible rfl)
    (try simp only [Act.put, pt8])
    refine wpAnyH_take (i := 8) (v := ?_) rfl (by kernel_rfl) (by kernel_rfl) (by kernel_rfl) (fun _ _ _ h => h) (Or.inl ⟨by rfl, ?_⟩) (by assumption) ?_
    rotate_left
    · intro w hSw; (try dsimp only at hSw); go_simp; (try with_reducible rfl)
    (try simp only [Act.put, pt8])
    refine wpAnyH_take (i := 9) (v := ?_) rfl (by kernel_rfl) (by kernel_rfl) (by kernel_rfl) (fun _ _ _ h => h) (Or.inl ⟨by rfl, ?_⟩) (by assumption) ?_
    rotate_left
    · intro w hSw; (try dsimp only at hSw); go_simp; (try with_reducible rfl)
    (try simp only [Act.put, pt8])
    refine wpAnyH_take (i := 10) (v := ?_) rfl (by kernel_rfl) (by kernel_rfl) (by kernel_rfl) (fun _ _ _ h => h) (Or.inl ⟨by rfl, ?_⟩) (by assumption) ?_
    rotate_left
    · intro w hSw; (try dsimp only at hSw); go_simp; (try with_reducible rfl)
    (try simp only [Act.put, pt8])
    refine wpAnyH_ready (rs := [11]) (by kernel_rfl) (by simp) ?_
    refine AllReadyH.cons rfl (fun K hK => ?_) AllReadyH.nil
    obtain ⟨q0, q1, q2, q3, -⟩ := hHeld
    have v7 := HM7.out.frozen l
    have e7 := kc HX7.out HMZ.out
    go_simp
    refine hK.out _ _ ⟨st_ne HE1.out q0, st_ne HE2.out q1, st_ne HE3.out q2, st_ne HE4.out q3, trivial⟩ (fun hHeld => ?_)
    clear q0 q1 q2 q3 v7 e7
    clear hK K
    (try simp only [Act.put, pt8])
    refine wpAnyH_done (by kernel_rfl) ?_ _
    clear hHeld o0 p2 y0 b0
    obtain ⟨X8, hX8⟩ : ∃ W, W = X7.setCell ⟨gm, l, none⟩ (.int .i64 m0) := ⟨_, rfl⟩
    have HO8 := Lib.hid (show OwnSt X1.heap.size X8 (.slice (some ⟨gm, 0, none⟩) s.mem.length cm) (.slice (some ⟨gt, 0, none⟩) s.ths.length cv) ⟨s.mem, s.ths.set k ⟨(n : Int) + 1, xr, xe, xb ++ [⟨(l : Int), z⟩]⟩⟩ (ps.set k ⟨⟨(n : Int) + 1, xr, xe, xb ++ [⟨(l : Int), z⟩]⟩, vr, .slice Bn (xb.length + 1) bn⟩) from by
      rw [hX8]
      have h0 := HO6.out.below HX7.out
      have h1 : OwnSt X1.heap.size X7 (.slice (some ⟨gm, 0, none⟩) (⟨s.mem.set l z, s.ths.set k ⟨(n : Int) + 1, xr, xe, xb ++ [⟨(l : Int), z⟩]⟩⟩ : Sta).mem.length cm) (.slice (some ⟨gt, 0, none⟩) s.ths.length cv) ⟨s.mem.set l z, s.ths.set k ⟨(n : Int) + 1, xr, xe, xb ++ [⟨(l : Int), z⟩]⟩⟩ (ps.set k ⟨⟨(n : Int) + 1, xr, xe, xb ++ [⟨(l : Int), z⟩]⟩, vr, .slice Bn (xb.length + 1) bn⟩) := by
        dsimp only
        rw [List.length_set]; exact h0
      have := h1.setM l m0
      dsimp only at this
      rw [List.length_set] at this
      exact this.cast (by rw [List.set_set, HM0.out, List.set_getElem_self]))
    have HQ8 := Lib.hid (show BoxC X8 gn 62 #[(.slice (some ⟨gm, 0, none⟩) s.mem.length cm), (.slice (some ⟨gt, 0, none⟩) s.ths.length cv)] from by rw [hX8]; exact (HQ6.out.below HX7.out HQ6.out.lt).other HE2.out _ _)
    have HRR8 := Lib.hid (show BoxC X8 gr 62 #[.slice none 0 0, .slice none 0 0] from by rw [hX8]; exact (HRR6.out.below HX7.out HRR6.out.lt).other ((HRR6.out.below HX7.out HRR6.out.lt).unlike HM7.out (by decide)) _ _)
    have HB8 := Lib.hid (show Below w.heap.size w X8 from by rw [hX8]; exact (chain HB6.out HX7.out).setCell (p := ⟨gm, l, none⟩) (Nat.le_trans HBX1.out.size HGM.out) _)
    rw [← hX8]
    clear hX8
    have y0 := HQ8.out.cell 0 _ rfl
    have y1 := HQ8.out.cell 1 _ rfl
    have r0 := HRR8.out.cell 0 _ rfl
    have r1 := HRR8.out.cell 1 _ rfl
    have f0 := HRR8.out.frozen 0
    have f1 := HRR8.out.frozen 1
    obtain ⟨W9, hW9⟩ : ∃ W, W = (X8.setCell ⟨gr, 0, none⟩ (.slice (some ⟨gm, 0, none⟩) s.mem.length cm)).setCell ⟨gr, 1, none⟩ (.slice (some ⟨gt, 0, none⟩) s.ths.length cv) := ⟨_, rfl⟩
    have HR9 := Lib.hid (show BoxC W9 gr 62 #[(.slice (some ⟨gm, 0, none⟩) s.mem.length cm), (.slice (some ⟨gt, 0, none⟩) s.ths.length cv)] from by rw [hW9]; exact (HRR8.out.set 0 _).set 1 _)
    have HO9 := Lib.hid (show OwnSt W3.heap.size W9 (.slice (some ⟨gm, 0, none⟩) s.mem.length cm) (.slice (some ⟨gt, 0, none⟩) s.ths.length cv) (tsS ⟨3, rg, (l : Int), nn, tn⟩ s k ⟨(n : Int), xr, xe, xb⟩) (ps.set k ⟨⟨(n : Int) + 1, xr, xe, xb ++ [⟨(l : Int), z⟩]⟩, vr, .slice Bn (xb.length + 1) bn⟩) from by
      rw [hW9]
      exact (((HO8.out.base HB31.out.size).cast HF3.out.symm).box HRR8.out (by decide) (by decide) (by decide) 0 _).box (HRR8.out.set 0 _) (by decide) (by decide) (by decide) 1 _)
    have HB9 := Lib.hid (show Below w.heap.size w W9 from by rw [hW9]; exact (HB8.out.setCell (p := ⟨gr, 0, none⟩) HGR.out _).setCell (p := ⟨gr, 1, none⟩) HGR.out _)
    have HW9 := Lib.hid hW9
    clear hW9
    go_wp2_with fail
    rw [← HW9.out]
    clear r0 r1 f0 f1
    have r0 := HR9.out.cell 0 _ rfl
    have r1 := HR9.out.cell 1 _ rfl
    have hz := HCO.out
    refine bodyPost_ret (v := .agg #[(.slice (some ⟨gm, 0, none⟩) s.mem.length cm), (.slice (some ⟨gt, 0, none⟩) s.ths.length cv)]) (by simp [results, Try.results66, go_sem, r0, r1, hz]) rfl ⟨_, _, _, rfl, HO9.out.base HB3.out.size, HB9.out⟩

  have e3 : ¬ ((op == 3) = true) := by simpa using h3
  by_cases h4 : op = 4
  · subst h4
    have HLO := Lib.hid (HPX.out.loc (by rfl))
    obtain ⟨l, rfl⟩ : ∃ l : Nat, lc = l := ⟨lc.toNat, by have h := HLO.out.1; dsimp only at h; omega⟩
    have hl4 : l < s.mem.length := by have h := HLO.out.2; dsimp only at h; omega
    obtain ⟨z, hz⟩ : ∃ z, z = nn := ⟨_, rfl⟩
    have HT := Lib.hid (show stT ⟨4, rg, (l : Int), nn, tn⟩ s.mem ⟨(n : Int), xr, xe, xb⟩ = ⟨(n : Int) + 1, xr, xe, xb⟩ from by simp [stT, stR, stE, jumps])
    have HM := Lib.hid (show ScM.stM ⟨4, rg, (l : Int), nn, tn⟩ s.mem xr = s.mem.set l z from by simp [ScM.stM, hz])
    have HF3 := Lib.hid (show tsS ⟨4, rg, (l : Int), nn, tn⟩ s k ⟨(n : Int), xr, xe, xb⟩ = ⟨s.mem, s.ths.set k ⟨(n : Int) + 1, xr, xe, xb ++ [⟨(l : Int), z⟩]⟩⟩ from by simp [tsS, hz])
    clear hz
    rw [HT.out, HM.out] at HO4
    rw [HT.out] at HPK'
    dsimp only at HOE
    rw [HT.out] at HOE
    obtain ⟨gm, cm', curm, hvm, hgm, hbm, hcm⟩ := own_nu (l := s.mem.set l z) HO4.out.mem (j := l) (by simpa using hl4)
    rw [List.length_set] at hvm
    injection hvm with hvm1 hvm3 hvm2
    clear hvm3
    subst hvm1 hvm2
    rw [List.getElem_set_self] at hcm
    obtain ⟨Ab, cb, hvb⟩ := own_slice (n := xb.length) HOE.out.2.1
    subst hvb
    have HBM := Lib.hid hbm
    have HGM := Lib.hid hgm
    have HMZ0 := Lib.hid hcm
    have mz := hcm
    clear hbm hgm hcm
    have HPU := Lib.hid (fun W (hW' : Below X4.heap.size X4 W) => bpush_any ⟨(l : Int), z⟩ W (Rw.own (own_below HOE.out.2.1 hW') (Nat.le_refl _)) (Nat.le_refl _) HBL.out)
    obtain ⟨b7, f7, hA7, hb7, hc7⟩ := HMR.out (by omega)
    subst hA7
    have HB0 := Lib.hid (show ∀ W, Below w.heap.size w W → W.cell? ⟨b7, f7 + l, none⟩ = some (.int .i64 s.mem[l]) from fun W hW => ((hW.mono hBB).cell (p := ⟨b7, f7 + l, none⟩) hb7).trans (hc7 l hl4))
    have HL7 := Lib.hid (show b7 < w.heap.size from Nat.lt_of_lt_of_le hb7 hBB)
    obtain ⟨m0, hm0⟩ : ∃ m0, m0 = s.mem[l] := ⟨_, rfl⟩
    rw [← hm0] at HB0
    have HM0 := Lib.hid hm0
    clear hc7 hb7 hm0
    have o0 := HQN.out.cell 0 _ rfl
    have p2 := HQ7.out.cell 2 _ rfl
    go_upto_region 9 with fail
    clear p0
    refine wp_region_held_drew (S := (fun w' => w'.cell? ⟨g7, 2, none⟩ = some (.int .i64 (l : Int)) ∧ w'.cell? ⟨gn, 0, none⟩ = some (.slice (some ⟨gm, 0, none⟩) s.mem.length cm) ∧ w'.cell? ⟨gm, l, none⟩ = some (.int .i64 z) ∧ True)) (by kernel_rfl) ⟨p2, o0, mz, trivial⟩ (fun hHeld => ?_)
    obtain ⟨Xs, hXs⟩ : ∃ W, W = X4.drew := ⟨_, rfl⟩
    have HXs := Lib.hid (show Below X4.heap.size X4 Xs from by rw [hXs]; exact below_drewN (Below.refl _ _) 1)
    rw [← hXs] at hHeld ⊢
    clear hXs
    have t3s := kc HXs.out t3
    refine wpAnyH_take (i := 0) (v := ?_) rfl (by kernel_rfl) (by kernel_rfl) (by kernel_rfl) (fun _ _ _ h => h) (Or.inl ⟨by rfl, ?_⟩) (by assumption) ?_
    rotate_left
    · intro w hSw; (try dsimp only at hSw); go_simp; (try with_reducible rfl)
    (try simp only [Act.put, pt8])
    refine wpAnyH_take (i := 1) (v := ?_) rfl (by kernel_rfl) (by kernel_rfl) (by kernel_rfl) (fun _ _ _ h => h) (Or.inl ⟨by rfl, ?_⟩) (by assumption) ?_
    rotate_left
    · intro w hSw; (try dsimp only at hSw); go_simp; (try with_reducible rfl)
    (try simp only [Act.put, pt8])
    refine wpAnyH_take (i := 2) (v := ?_) rfl (by kernel_rfl) (by kernel_rfl) (by kernel_rfl) (fun _ _ _ h => h) (Or.inl ⟨by rfl, ?_⟩) (by assumption) ?_
    rotate_left
    · intro w hSw; (try dsimp only at hSw); go_simp; (try with_reducible rfl)
    (try simp only [Act.put, pt8])
    refine wpAnyH_take (i := 3) (v := ?_) rfl (by kernel_rfl) (by kernel_rfl) (by kernel_rfl) (fun _ _ _ h => h) (Or.inl ⟨by rfl, ?_⟩) (by assumption) ?_
    rotate_left
    · intro w hSw; (try dsimp only at hSw); go_simp; (try with_reducible rfl)
    (try simp only [Act.put, pt8])
    refine wpAnyH_take (i := 5) (v := ?_) rfl (by kernel_rfl) (by kernel_rfl) (by kernel_rfl) (fun _ _ _ h => h) (Or.inl ⟨by rfl, ?_⟩) (by assumption) ?_
    rotate_left
    · intro w hSw; (try dsimp only at hSw); go_simp; (try with_reducible rfl)
    (try simp only [Act.put, pt8])
    refine wpAnyH_take (i := 6) (v := ?_) rfl (by kernel_rfl) (by kernel_rfl) (by kernel_rfl) (fun _ _ _ h => h) (Or.inl ⟨by rfl, ?_⟩) (by assumption) ?_
    rotate_left
    · intro w hSw; (try dsimp only at hSw); go_simp; (try with_reducible rfl)
    (try simp only [Act.put, pt8])
    refine wpAnyH_take (i := 7) (v := ?_) rfl (by kernel_rfl) (by kernel_rfl) (by kernel_rfl) (fun _ _ _ h => h) (Or.inl ⟨by rfl, ?_⟩) (by assumption) ?_
    rotate_left
    · intro w hSw; (try dsimp only at hSw); go_simp; (try with_reducible rfl)
    (try simp only [Act.put, pt8])
    refine wpAnyH_take (i := 8) (v := ?_) rfl (by kernel_rfl) (by kernel_rfl) (by kernel_rfl) (fun _ _ _ h => h) (Or.inl ⟨by rfl, ?_⟩) (by assumption) ?_
    rotate_left
    · intro w hSw; (try dsimp only at hSw); go_simp; (try with_reducible rfl)
    (try simp only [Act.put, pt8])
    refine wpAnyH_take (i := 9) (v := ?_) rfl (by kernel_rfl) (by kernel_rfl) (by kernel_rfl) (fun _ _ _ h => h) (Or.inl ⟨by rfl, ?_⟩) (by assumption) ?_
    rotate_left
    · intro w hSw; (try dsimp only at hSw); go_simp; (try with_reducible rfl)
    (try simp only [Act.put, pt8])
    refine wpAnyH_take (i := 10) (v := ?_) rfl (by kernel_rfl) (by kernel_rfl) (by kernel_rfl) (fun _ _ _ h => h) (Or.inl ⟨by rfl, ?_⟩) (by assumption) ?_
    rotate_left
    · intro w hSw; (try dsimp only at hSw); go_simp; (try with_reducible rfl)
    (try simp only [Act.put, pt8])
    refine wpAnyH_take (i := 11) (v := ?_) rfl (by kernel_rfl) (by kernel_rfl) (by kernel_rfl) (fun _ _ _ h => h) (Or.inl ⟨by rfl, ?_⟩) (by assumption) ?_
    rotate_left
    · intro w hSw; (try dsimp only at hSw); go_simp; (try with_reducible rfl)
    (try simp only [Act.put, pt8])
    refine wpAnyH_take (i := 12) (v := ?_) rfl (by kernel_rfl) (by kernel_rfl) (by kernel_rfl) (fun _ _ _ h => h) (Or.inl ⟨by rfl, ?_⟩) (by assumption) ?_
    rotate_left
    · intro w hSw; (try dsimp only at hSw); go_simp; (try with_reducible rfl)
    (try simp only [Act.put, pt8])
    refine wpAnyH_take (i := 13) (v := ?_) rfl (by kernel_rfl) (by kernel_rfl) (by kernel_rfl) (fun _ _ _ h => h) (Or.inl ⟨by rfl, ?_⟩) (by assumption) ?_
    rotate_left
    · intro w hSw; (try dsimp only at hSw); go_simp; (try with_reducible rfl)
    (try simp only [Act.put, pt8])
    refine wpAnyH_ready (rs := [4]) (by kernel_rfl) (by simp) ?_
    refine AllReadyH.cons rfl (fun K hK => ?_) AllReadyH.nil
    go_simp
    refine hK.out _ _ hHeld (fun hHeld => ?_)
    clear hK K
    (try simp only [Act.put, pt8])
    clear t3s
    refine wpAnyH_ready (rs := [14]) (by kernel_rfl) (by simp) ?_
    refine AllReadyH.cons rfl (fun K hK => ?_) AllReadyH.nil
    obtain ⟨q0, q1, q2, -⟩ := hHeld
    go_simp
    refine (HPU.out _ HXs.out).mono ?_
    rintro e X5 ⟨vu, rfl, hou, hb⟩
    have HB5 := Lib.hid (show Below X4.heap.size X4 X5 from chain HXs.out hb)
    obtain ⟨Bn, bn, rfl⟩ := own_slice (n := xb.length + 1) (show X5.ownsRow _ _ 2 vu (xb.length + 1) _ from by have e := hou; unfold OwnW at e; rw [List.length_append] at e; exact e)
    have HOU := Lib.hid (show OwnW X4.heap.size X5 _ _ from own_base hou HXs.out.size)
    refine hK.out _ _ ⟨kc hb q0, kc hb q1, kc hb q2, trivial⟩ (fun hHeld => ?_)
    clear q0 q1 q2
    clear hK K
    (try simp only [Act.put, pt8])
    clear hb hou
    have HV5 := Lib.hid (HBV.out.below HB5.out HBV.out.lt)
    have v5 := HV5.out.frozen (k * 4 + 3)
    have e5 := kc HB5.out t3
    have HM5 := Lib.hid (HBM.out.below HB5.out HBM.out.lt)
    have HQN5 := Lib.hid (HQN.out.below HB5.out HQN.out.lt)
    have HQ75 := Lib.hid (HQ7.out.below HB5.out HQ7.out.lt)
    refine wpAnyH_take (i := 15) (v := ?_) rfl (by kernel_rfl) (by kernel_rfl) (by kernel_rfl) (fun _ _ _ h => h) (Or.inl ⟨by rfl, ?_⟩) (by assumption) ?_
    rotate_left
    · intro w hSw; (try dsimp only at hSw); go_simp; (try with_reducible rfl)
    (try simp only [Act.put, pt8])
    refine wpAnyH_take (i := 16) (v := ?_) rfl (by kernel_rfl) (by kernel_rfl) (by kernel_rfl) (fun _ _ _ h => h) (Or.inl ⟨by rfl, ?_⟩) (by assumption) ?_
    rotate_left
    · intro w hSw; (try dsimp only at hSw); go_simp; (try with_reducible rfl)
    (try simp only [Act.put, pt8])
    refine wpAnyH_ready (rs := [17]) (by kernel_rfl) (by simp) ?_
    refine AllReadyH.cons rfl (fun K hK => ?_) AllReadyH.nil
    obtain ⟨q0, q1, q2, -⟩ := hHeld
    go_simp
    refine hK.out _ _ ⟨st_ne (HQ75.out.unlike HV5.out (by decide)) q0, st_ne (HQN5.out.unlike HV5.out (by decide)) q1, st_ne (HM5.out.unlike HV5.out (by decide)) q2, trivial⟩ (fun hHeld => ?_)
    clear q0 q1 q2
    clear hK K
    (try simp only [Act.put, pt8])
    refine wpAnyH_done (by kernel_rfl) ?_ _
    clear hHeld
    obtain ⟨X6, hX6⟩ : ∃ W, W = X5.setCell ⟨gt, k * 4 + 3, none⟩ (.slice Bn (xb.length + 1) bn) := ⟨_, rfl⟩
    have HO6 := Lib.hid (show OwnSt X1.heap.size X6 (.slice (some ⟨gm, 0, none⟩) s.mem.length cm) (.slice (some ⟨gt, 0, none⟩) s.ths.length cv) ⟨s.mem.set l z, s.ths.set k ⟨(n : Int) + 1, xr, xe, xb ++ [⟨(l : Int), z⟩]⟩⟩ (ps.set k ⟨⟨(n : Int) + 1, xr, xe, xb ++ [⟨(l : Int), z⟩]⟩, vr, .slice Bn (xb.length + 1) bn⟩) from by
      rw [hX6]
      have := (HO4.out.below HB5.out).setVB' HPK'.out (own_base HOU.out HX14.out.size)
      exact this.cast (by rw [List.set_set]))
    have HQ6 := Lib.hid (show BoxC X6 gn 62 #[(.slice (some ⟨gm, 0, none⟩) s.mem.length cm), (.slice (some ⟨gt, 0, none⟩) s.ths.length cv)] from by rw [hX6]; exact HQN5.out.other (HQN5.out.unlike HV5.out (by decide)) _ _)
    have HQ76 := Lib.hid (show BoxC X6 g7 70 _ from by rw [hX6]; exact HQ75.out.other (HQ75.out.unlike HV5.out (by decide)) _ _)
    have HM6 := Lib.hid (show BoxC X6 gm 3 _ from by rw [hX6]; exact HM5.out.other (HM5.out.unlike HV5.out (by decide)) _ _)
    have HRR5 := Lib.hid (HRR.out.below HB5.out HRR.out.lt)
    have HRR6 := Lib.hid (show BoxC X6 gr 62 #[.slice none 0 0, .slice none 0 0] from by rw [hX6]; exact HRR5.out.other (HRR5.out.unlike HV5.out (by decide)) _ _)
    have HB6 := Lib.hid (show Below w.heap.size w X6 from by rw [hX6]; exact (chain HBX.out HB5.out).setCell (p := ⟨gt, k * 4 + 3, none⟩) (Nat.le_trans HBX1.out.size HGT.out) _)
    have HB31X := Lib.hid (show Below W3.heap.size W3 X6 from by rw [hX6]; exact (chain HX34.out HB5.out).setCell (p := ⟨gt, k * 4 + 3, none⟩) (Nat.le_trans HB31.out.size HGT.out) _)
    have HMZ := Lib.hid (show X6.cell? ⟨gm, l, none⟩ = some (.int .i64 z) from by rw [hX6]; exact st_ne (HM5.out.unlike HV5.out (by decide)) (kc HB5.out HMZ0.out))
    rw [← hX6]
    clear hX6 v5 e5 o0 p2 mz y0 t3
    have o0 := HQ6.out.cell 0 _ rfl
    have p2 := HQ76.out.cell 2 _ rfl
    have y0 := (HY.out.below HB31X.out HY.out.lt).cell 0 _ rfl
    have b0 := HB0.out _ HB6.out
    have HE1 := Lib.hid (HQ76.out.unlike HM6.out (by decide))
    have HE2 := Lib.hid (HQ6.out.unlike HM6.out (by decide))
    have HE3 := Lib.hid (show gs ≠ gm from by have h1 := HGS.out; have h2 := HGM.out; have h3 := HB31.out.size; omega)
    have HE4 := Lib.hid (show b7 ≠ gm from by have h1 := HL7.out; have h2 := HGM.out; have h3 := HBX1.out.size; omega)
    go_upto_region 10 with fail
    refine wp_region_held_drew (S := (fun w' => w'.cell? ⟨g7, 2, none⟩ = some (.int .i64 (l : Int)) ∧ w'.cell? ⟨gn, 0, none⟩ = some (.slice (some ⟨gm, 0, none⟩) s.mem.length cm) ∧ w'.cell? ⟨gs, 0, none⟩ = some (.slice (some ⟨b7, f7, none⟩) s.mem.length c7) ∧ w'.cell? ⟨b7, f7 + l, none⟩ = some (.int .i64 m0) ∧ True)) (by kernel_rfl) ⟨p2, o0, y0, b0, trivial⟩ (fun hHeld => ?_)
    obtain ⟨X7, hX7⟩ : ∃ W, W = X6.drew := ⟨_, rfl⟩
    have HX7 := Lib.hid (show Below X6.heap.size X6 X7 from by rw [hX7]; exact below_drewN (Below.refl _ _) 1)
    rw [← hX7] at hHeld ⊢
    clear hX7
    have HM7 := Lib.hid (HM6.out.below HX7.out HM6.out.lt)
    refine wpAnyH_take (i := 0) (v := ?_) rfl (by kernel_rfl) (by kernel_rfl) (by kernel_rfl) (fun _ _ _ h => h) (Or.inl ⟨by rfl, ?_⟩) (by assumption) ?_
    rotate_left
    · intro w hSw; (try dsimp only at hSw); go_simp; (try with_reducible rfl)
    (try simp only [Act.put, pt8])
    refine wpAnyH_take (i := 1) (v := ?_) rfl (by kernel_rfl) (by kernel_rfl) (by kernel_rfl) (fun _ _ _ h => h) (Or.inl ⟨by rfl, ?_⟩) (by assumption) ?_
    rotate_left
    · intro w hSw; (try dsimp only at hSw); go_simp; (try with_reducible rfl)
    (try simp only [Act.put, pt8])
    refine wpAnyH_take (i := 2) (v := ?_) rfl (by kernel_rfl) (by kernel_rfl) (by kernel_rfl) (fun _ _ _ h => h) (Or.inl ⟨by rfl, ?_⟩) (by assumption) ?_
    rotate_left
    · intro w hSw; (try dsimp only at hSw); go_simp; (try with_reducible rfl)
    (try simp only [Act.put, pt8])
    refine wpAnyH_take (i := 3) (v := ?_) rfl (by kernel_rfl) (by kernel_rfl) (by kernel_rfl) (fun _ _ _ h => h) (Or.inl ⟨by rfl, ?_⟩) (by assumption) ?_
    rotate_left
    · intro w hSw; (try dsimp only at hSw); go_simp; (try with_reducible rfl)
    (try simp only [Act.put, pt8])
    refine wpAnyH_take (i := 4) (v := ?_) rfl (by kernel_rfl) (by kernel_rfl) (by kernel_rfl) (fun _ _ _ h => h) (Or.inl ⟨by rfl, ?_⟩) (by assumption) ?_
    rotate_left
    · intro w hSw; (try dsimp only at hSw); go_simp; (try with_reducible rfl)
    (try simp only [Act.put, pt8])
    refine wpAnyH_take (i := 5) (v := ?_) rfl (by kernel_rfl) (by kernel_rfl) (by kernel_rfl) (fun _ _ _ h => h) (Or.inl ⟨by rfl, ?_⟩) (by assumption) ?_
    rotate_left
    · intro w hSw; (try dsimp only at hSw); go_simp; (try with_reducible rfl)
    (try simp only [Act.put, pt8])
    refine wpAnyH_take (i := 6) (v := ?_) rfl (by kernel_rfl) (by kernel_rfl) (by kernel_rfl) (fun _ _ _ h => h) (Or.inl ⟨by rfl, ?_⟩) (by assumption) ?_
    rotate_left
    · intro w hSw; (try dsimp only at hSw); go_simp; (try with_reducible rfl)
    (try simp only [Act.put, pt8])
    refine wpAnyH_take (i := 7) (v := ?_) rfl (by kernel_rfl) (by kernel_rfl) (by kernel_rfl) (fun _ _ _ h => h) (Or.inl ⟨by rfl, ?_⟩) (by assumption) ?_
    rotate_left
    · intro w hSw; (try dsimp only at hSw); go_simp; (try with_reducible rfl)
    (try simp only [Act.put, pt8])
    refine wpAnyH_take (i := 8) (v := ?_) rfl (by kernel_rfl) (by kernel_rfl) (by kernel_rfl) (fun _ _ _ h => h) (Or.inl ⟨by rfl, ?_⟩) (by assumption) ?_
    rotate_left
    · intro w hSw; (try dsimp only at hSw); go_simp; (try with_reducible rfl)
    (try simp only [Act.put, pt8])
    refine wpAnyH_take (i := 9) (v := ?_) rfl (by kernel_rfl) (by kernel_rfl) (by kernel_rfl) (fun _ _ _ h => h) (Or.inl ⟨by rfl, ?_⟩) (by assumption) ?_
    rotate_left
    · intro w hSw; (try dsimp only at hSw); go_simp; (try with_reducible rfl)
    (try simp only [Act.put, pt8])
    refine wpAnyH_take (i := 10) (v := ?_) rfl (by kernel_rfl) (by kernel_rfl) (by kernel_rfl) (fun _ _ _ h => h) (Or.inl ⟨by rfl, ?_⟩) (by assumption) ?_
    rotate_left
    · intro w hSw; (try dsimp only at hSw); go_simp; (try with_reducible rfl)
    (try simp only [Act.put, pt8])
    refine wpAnyH_ready (rs := [11]) (by kernel_rfl) (by simp) ?_
    refine AllReadyH.cons rfl (fun K hK => ?_) AllReadyH.nil
    obtain ⟨q0, q1, q2, q3, -⟩ := hHeld
    have v7 := HM7.out.frozen l
    have e7 := kc HX7.out HMZ.out
    go_simp
    refine hK.out _ _ ⟨st_ne HE1.out q0, st_ne HE2.out q1, st_ne HE3.out q2, st_ne HE4.out q3, trivial⟩ (fun hHeld => ?_)
    clear q0 q1 q2 q3 v7 e7
    clear hK K
    (try simp only [Act.put, pt8])
    refine wpAnyH_done (by kernel_rfl) ?_ _
    clear hHeld o0 p2 y0 b0
    obtain ⟨X8, hX8⟩ : ∃ W, W = X7.setCell ⟨gm, l, none⟩ (.int .i64 m0) := ⟨_, rfl⟩
    have HO8 := Lib.hid (show OwnSt X1.heap.size X8 (.slice (some ⟨gm, 0, none⟩) s.mem.length cm) (.slice (some ⟨gt, 0, none⟩) s.ths.length cv) ⟨s.mem, s.ths.set k ⟨(n : Int) + 1, xr, xe, xb ++ [⟨(l : Int), z⟩]⟩⟩ (ps.set k ⟨⟨(n : Int) + 1, xr, xe, xb ++ [⟨(l : Int), z⟩]⟩, vr, .slice Bn (xb.length + 1) bn⟩) from by
      rw [hX8]
      have h0 := HO6.out.below HX7.out
      have h1 : OwnSt X1.heap.size X7 (.slice (some ⟨gm, 0, none⟩) (⟨s.mem.set l z, s.ths.set k ⟨(n : Int) + 1, xr, xe, xb ++ [⟨(l : Int), z⟩]⟩⟩ : Sta).mem.length cm) (.slice (some ⟨gt, 0, none⟩) s.ths.length cv) ⟨s.mem.set l z, s.ths.set k ⟨(n : Int) + 1, xr, xe, xb ++ [⟨(l : Int), z⟩]⟩⟩ (ps.set k ⟨⟨(n : Int) + 1, xr, xe, xb ++ [⟨(l : Int), z⟩]⟩, vr, .slice Bn (xb.length + 1) bn⟩) := by
        dsimp only
        rw [List.length_set]; exact h0
      have := h1.setM l m0
      dsimp only at this
      rw [List.length_set] at this
      exact this.cast (by rw [List.set_set, HM0.out, List.set_getElem_self]))
    have HQ8 := Lib.hid (show BoxC X8 gn 62 #[(.slice (some ⟨gm, 0, none⟩) s.mem.length cm), (.slice (some ⟨gt, 0, none⟩) s.ths.length cv)] from by rw [hX8]; exact (HQ6.out.below HX7.out HQ6.out.lt).other HE2.out _ _)
    have HRR8 := Lib.hid (show BoxC X8 gr 62 #[.slice none 0 0, .slice none 0 0] from by rw [hX8]; exact (HRR6.out.below HX7.out HRR6.out.lt).other ((HRR6.out.below HX7.out HRR6.out.lt).unlike HM7.out (by decide)) _ _)
    have HB8 := Lib.hid (show Below w.heap.size w X8 from by rw [hX8]; exact (chain HB6.out HX7.out).setCell (p := ⟨gm, l, none⟩) (Nat.le_trans HBX1.out.size HGM.out) _)
    rw [← hX8]
    clear hX8
    have y0 := HQ8.out.cell 0 _ rfl
    have y1 := HQ8.out.cell 1 _ rfl
    have r0 := HRR8.out.cell 0 _ rfl
    have r1 := HRR8.out.cell 1 _ rfl
    have f0 := HRR8.out.frozen 0
    have f1 := HRR8.out.frozen 1
    obtain ⟨W9, hW9⟩ : ∃ W, W = (X8.setCell ⟨gr, 0, none⟩ (.slice (some ⟨gm, 0, none⟩) s.mem.length cm)).setCell ⟨gr, 1, none⟩ (.slice (some ⟨gt, 0, none⟩) s.ths.length cv) := ⟨_, rfl⟩
    have HR9 := Lib.hid (show BoxC W9 gr 62 #[(.slice (some ⟨gm, 0, none⟩) s.mem.length cm), (.slice (some ⟨gt, 0, none⟩) s.ths.length cv)] from by rw [hW9]; exact (HRR8.out.set 0 _).set 1 _)
    have HO9 := Lib.hid (show OwnSt W3.heap.size W9 (.slice (some ⟨gm, 0, none⟩) s.mem.length cm) (.slice (some ⟨gt, 0, none⟩) s.ths.length cv) (tsS ⟨4, rg, (l : Int), nn, tn⟩ s k ⟨(n : Int), xr, xe, xb⟩) (ps.set k ⟨⟨(n : Int) + 1, xr, xe, xb ++ [⟨(l : Int), z⟩]⟩, vr, .slice Bn (xb.length + 1) bn⟩) from by
      rw [hW9]
      exact (((HO8.out.base HB31.out.size).cast HF3.out.symm).box HRR8.out (by decide) (by decide) (by decide) 0 _).box (HRR8.out.set 0 _) (by decide) (by decide) (by decide) 1 _)
    have HB9 := Lib.hid (show Below w.heap.size w W9 from by rw [hW9]; exact (HB8.out.setCell (p := ⟨gr, 0, none⟩) HGR.out _).setCell (p := ⟨gr, 1, none⟩) HGR.out _)
    have HW9 := Lib.hid hW9
    clear hW9
    go_wp2_with fail
    rw [← HW9.out]
    clear r0 r1 f0 f1
    have r0 := HR9.out.cell 0 _ rfl
    have r1 := HR9.out.cell 1 _ rfl
    have hz := HCO.out
    refine bodyPost_ret (v := .agg #[(.slice (some ⟨gm, 0, none⟩) s.mem.length cm), (.slice (some ⟨gt, 0, none⟩) s.ths.length cv)]) (by simp [results, Try.results66, go_sem, r0, r1, hz]) rfl ⟨_, _, _, rfl, HO9.out.base HB3.out.size, HB9.out⟩

  have e4 : ¬ ((op == 4) = true) := by simpa using h4
  have HF3 := Lib.hid (show tsS ⟨op, rg, lc, nn, tn⟩ s k ⟨(n : Int), xr, xe, xb⟩ = ⟨ScM.stM ⟨op, rg, lc, nn, tn⟩ s.mem xr, s.ths.set k (stT ⟨op, rg, lc, nn, tn⟩ s.mem ⟨(n : Int), xr, xe, xb⟩)⟩ from by unfold tsS; simp only [h2, h3, h4, if_false])
  clear h2 h3 h4 y0 t1 t3
  go_upto_region 11 with fail
  clear p0 e2 e3 e4
  have y0 := HQN.out.cell 0 _ rfl
  have y1 := HQN.out.cell 1 _ rfl
  have r0 := HRR.out.cell 0 _ rfl
  have r1 := HRR.out.cell 1 _ rfl
  have f0 := HRR.out.frozen 0
  have f1 := HRR.out.frozen 1
  obtain ⟨W9, hW9⟩ : ∃ W, W = (X4.setCell ⟨gr, 0, none⟩ (.slice Am s.mem.length cm)).setCell ⟨gr, 1, none⟩ (.slice (some ⟨gt, 0, none⟩) s.ths.length cv) := ⟨_, rfl⟩
  have HR9 := Lib.hid (show BoxC W9 gr 62 #[(.slice Am s.mem.length cm), (.slice (some ⟨gt, 0, none⟩) s.ths.length cv)] from by rw [hW9]; exact (HRR.out.set 0 _).set 1 _)
  have HO9 := Lib.hid (show OwnSt W3.heap.size W9 (.slice Am s.mem.length cm) (.slice (some ⟨gt, 0, none⟩) s.ths.length cv) (tsS ⟨op, rg, lc, nn, tn⟩ s k ⟨(n : Int), xr, xe, xb⟩) ps from by
    rw [hW9]
    exact (((HO4.out.base HB31.out.size).cast HF3.out.symm).box HRR.out (by decide) (by decide) (by decide) 0 _).box (HRR.out.set 0 _) (by decide) (by decide) (by decide) 1 _)
  have HB9 := Lib.hid (show Below w.heap.size w W9 from by rw [hW9]; exact (HBX.out.setCell (p := ⟨gr, 0, none⟩) HGR.out _).setCell (p := ⟨gr, 1, none⟩) HGR.out _)
  have HW9 := Lib.hid hW9
  clear hW9
  go_wp2_with fail
  rw [← HW9.out]
  clear r0 r1 f0 f1
  have r0 := HR9.out.cell 0 _ rfl
  have r1 := HR9.out.cell 1 _ rfl
  have hz := HCO.out
  refine bodyPost_ret (v := .agg #[(.slice Am s.mem.length cm), (.slice (some ⟨gt, 0, none⟩) s.ths.length cv)]) (by simp [results, Try.results66, go_sem, r0, r1, hz]) rfl ⟨_, _, _, rfl, HO9.out.base HB3.out.size, HB9.out⟩
end Go.Proofs.Ytbffjhdocicfoaa
