/-
  tso.isThread, tso.waits, tso.can.
  THE DOCUMENT's Drain and All.
-/
import Derived.Test.YtkbnppidkhbbeaaK06
import Derived.Test.YtkbnppidkhbbeaaScW
import Derived.Deep.RegionHeld3
import Derived.Deep.DeepCutAuto
import Derived.Test.YtkbnppidkhbbeaaSuV
set_option linter.unusedVariables false
set_option linter.unusedSimpArgs false
namespace Go.Proofs.Ytkbnppidkhbbeaa
open Go.RowKit
set_option linter.unusedVariables false
set_option linter.unusedSimpArgs false
open CodM (St Pg rightP)
open BfM (Wr plc)
open ScM

set_option maxHeartbeats 4000000 in
set_option maxRecDepth 100000 in
theorem tthread_any {B : Nat} {v : Value} {P : Pg} (t : Int) (w : World) (hv : PgV B w v P) (hBB : B ≤ w.heap.size) :
    Calls Try.prog 37 #[v, .int .i64 t] w fun e w' => e = .returned (.bool (decide (0 ≤ t ∧ t < (P.ths.length : Int)))) ∧ Below w.heap.size w w' := by
  obtain ⟨pi, pt, rfl, ⟨P0, d0, rfl, -⟩, ⟨P1, d1, rfl, l1, l2, -⟩⟩ := hv
  unfold maxLen at l2
  have hB := below_al (Below.refl w.heap.size w) (.cells #[.slice P0 P.init.length d0, .slice P1 P.ths.length d1] 25)
  have HP := Lib.hid (PgBox.at (w := w) rfl (.slice P0 P.init.length d0) (.slice P1 P.ths.length d1) 25)
  obtain ⟨x0, x1⟩ := HP.out
  by_cases h0 : 0 ≤ t
  · by_cases h1 : t < (P.ths.length : Int)
    · rw [decide_eq_true (show 0 ≤ t ∧ t < (P.ths.length : Int) from ⟨h0, h1⟩)]
      go_enter Try.func37, Try.ntmps37
      go_wp2
      go_ret
      exact ⟨rfl, hB⟩
    · rw [decide_eq_false (show ¬ (0 ≤ t ∧ t < (P.ths.length : Int)) from fun h => h1 h.2)]
      go_enter Try.func37, Try.ntmps37
      go_wp2
      go_ret
      exact ⟨rfl, hB⟩
  · rw [decide_eq_false (show ¬ (0 ≤ t ∧ t < (P.ths.length : Int)) from fun h => h0 h.1)]
    go_enter Try.func37, Try.ntmps37
    go_wp2
    go_ret
    exact ⟨rfl, hB⟩
/-- A step that waits. -/
def wts (x : St) : Bool := decide (x.op = 6) || decide (x.op = 5)
set_option maxHeartbeats 4000000 in
set_option maxRecDepth 100000 in
theorem twaits_any (x : St) (w : World) :
    Calls Try.prog 44 #[.agg #[.int .i64 x.op, .int .i64 x.reg, .int .i64 x.loc, .int .i64 x.n, .int .i64 x.to]] w fun e w' => e = .returned (.bool (wts x)) ∧ Below w.heap.size w w' := by
  obtain ⟨o, r, l, n, t⟩ := x
  have hB := below_al (Below.refl w.heap.size w) (.cells #[.int .i64 o, .int .i64 r, .int .i64 l, .int .i64 n, .int .i64 t] 49)
  have x0 : (w.alloc (.cells #[.int .i64 o, .int .i64 r, .int .i64 l, .int .i64 n, .int .i64 t] 49)).cell? ⟨w.heap.size, 0, none⟩ = some (.int .i64 o) := by rw [World.cell?_alloc_at _ _ _ _ rfl]; rfl
  unfold wts
  dsimp only
  by_cases h6 : o = 6
  · subst h6
    go_enter Try.func44, Try.ntmps44
    go_wp2
    go_ret
    exact ⟨rfl, hB⟩
  by_cases h5 : o = 5
  · subst h5
    go_enter Try.func44, Try.ntmps44
    go_wp2
    go_ret
    exact ⟨rfl, hB⟩
  have b6 : (o == 6) = false := beq_eq_false_iff_ne.2 h6
  have b5 : (o == 5) = false := beq_eq_false_iff_ne.2 h5
  rw [decide_eq_false h6, decide_eq_false h5]
  go_enter Try.func44, Try.ntmps44
  go_wp2
  go_ret
  refine ⟨?_, hB⟩
  simp [b6, b5]
set_option maxHeartbeats 8000000 in
set_option maxRecDepth 100000 in
theorem tcan_any {B : Nat} {v u : Value} {P : Pg} {s : Sta} (t : Int) (d : Bool) (w : World) (hv : PgV B w v P) (hu : StaV B w u s) (hBB : B ≤ w.heap.size) (ho : OkSt P s) :
    Calls Try.prog 28 #[v, u, .agg #[.int .i64 t, .bool d]] w fun e w' => e = .returned (.bool (tst P s t d).isSome) ∧ Below w.heap.size w w' := by
  have HTH := Lib.hid (fun W (hW : Below w.heap.size w W) => tthread_any t W ((hv.below (hW.mono hBB)).more (Nat.le_trans hBB hW.size)) (Nat.le_refl _))
  obtain ⟨pi, pt, rfl, hpm⟩ := hv
  obtain ⟨um, ut, rfl, hum⟩ := hu
  obtain ⟨⟨P0, d0, rfl, -⟩, ⟨P1, d1, rfl, l1, l2, l3⟩⟩ := hpm
  obtain ⟨⟨A7, c7, rfl, -⟩, ⟨A1, c1, rfl, m1, m2, -, m3⟩⟩ := hum
  unfold maxLen at l2 m2
  have HL3 := Lib.hid l3
  have HM3 := Lib.hid m3
  have HO := Lib.hid ho
  have HTL := Lib.hid ho.ths
  clear l3 m3 ho
  obtain ⟨W3, hW3⟩ : ∃ W, W = ((w.alloc (.cells #[.slice P0 P.init.length d0, .slice P1 P.ths.length d1] 25)).alloc (.cells #[.slice A7 s.mem.length c7, .slice A1 s.ths.length c1] 28)).alloc (.cells #[.int .i64 t, .bool d] 30) := ⟨_, rfl⟩
  obtain ⟨gp, hgp⟩ : ∃ g, g = w.heap.size := ⟨_, rfl⟩
  obtain ⟨gs, hgs⟩ : ∃ g, g = w.heap.size + 1 := ⟨_, rfl⟩
  obtain ⟨gk, hgk⟩ : ∃ g, g = w.heap.size + 1 + 1 := ⟨_, rfl⟩
  have HX := Lib.hid (show BoxC W3 gp 25 #[.slice P0 P.init.length d0, .slice P1 P.ths.length d1] from by rw [hW3, hgp]; exact ((BoxC.new w _ _).alloc _).alloc _)
  have HY := Lib.hid (show BoxC W3 gs 28 #[.slice A7 s.mem.length c7, .slice A1 s.ths.length c1] from by rw [hW3, hgs]; have := (BoxC.new (w.alloc (.cells #[.slice P0 P.init.length d0, .slice P1 P.ths.length d1] 25)) 28 #[.slice A7 s.mem.length c7, .slice A1 s.ths.length c1]).alloc (.cells #[.int .i64 t, .bool d] 30); rw [World.size_alloc] at this; exact this)
  have HK := Lib.hid (show BoxC W3 gk 30 #[.int .i64 t, .bool d] from by rw [hW3, hgk]; have := BoxC.new ((w.alloc (.cells #[.slice P0 P.init.length d0, .slice P1 P.ths.length d1] 25)).alloc (.cells #[.slice A7 s.mem.length c7, .slice A1 s.ths.length c1] 28)) 30 #[.int .i64 t, .bool d]; rw [World.size_alloc, World.size_alloc] at this; exact this)
  have HB3 := Lib.hid (show Below w.heap.size w W3 from by rw [hW3]; exact below_al (below_al (below_al (Below.refl _ _) _) _) _)
  have x0 := HX.out.cell 0 _ rfl
  have x1 := HX.out.cell 1 _ rfl
  have k0 := HK.out.cell 0 _ rfl
  go_enter Try.func28, Try.ntmps28
  go_upto_region 1 with fail
  rw [← hW3]
  (try rw [← hgk])
  (try rw [← hgs])
  (try rw [← hgp])
  clear hW3 hgk hgs hgp
  go_wp2_with fail
  refine (HTH.out _ HB3.out).mono ?_
  rintro e w1 ⟨rfl, hb1⟩
  have HB1 := Lib.hid hb1
  have HBF := Lib.hid (chain HB3.out hb1)
  clear x0 x1 k0 HTH hb1
  by_cases hr : 0 ≤ t ∧ t < (P.ths.length : Int)
  case neg =>
    have HTO := Lib.hid (show tst P s t d = none from tst_out (by rw [HTL.out]; exact hr))
    rw [decide_eq_false hr]
    clear hr
    go_wp2
    go_ret
    exact ⟨by rw [HTO.out]; rfl, HBF.out⟩
  rw [decide_eq_true hr]
  obtain ⟨hr1, hr2⟩ := hr
  obtain ⟨k, rfl⟩ : ∃ k : Nat, t = k := ⟨t.toNat, by omega⟩
  have hkt : k < P.ths.length := by omega
  have hks : k < s.ths.length := by rw [HTL.out]; exact hkt
  have HTD := Lib.hid (tst_drain HO.out hks)
  have HTS := Lib.hid (fun h3 => tst_step (P := P) (s := s) hks hkt h3)
  have HTE := Lib.hid (atS_iff HO.out hks hkt)
  have HTN := Lib.hid (fun h => tst_end (P := P) (s := s) (t := (k : Int)) h)
  have hlo := (HO.out.th k hks hkt).lo
  obtain ⟨b1, f1, rfl, hb1, hc1⟩ := HM3.out (by omega)
  obtain ⟨vr, vb, a0, a1, a2, a3, hRg, hW⟩ := hc1 k hks
  obtain ⟨b2, f2, rfl, hb2, hc2⟩ := HL3.out (by omega)
  obtain ⟨vs, s0, hS⟩ := hc2 k hkt
  replace a0 := ((HBF.out.mono hBB).cell (p := ⟨b1, f1 + k * 4, none⟩) hb1).trans a0
  replace a1 := ((HBF.out.mono hBB).cell (p := ⟨b1, f1 + k * 4 + 1, none⟩) hb1).trans a1
  replace a2 := ((HBF.out.mono hBB).cell (p := ⟨b1, f1 + k * 4 + 2, none⟩) hb1).trans a2
  replace a3 := ((HBF.out.mono hBB).cell (p := ⟨b1, f1 + k * 4 + 3, none⟩) hb1).trans a3
  replace s0 := ((HBF.out.mono hBB).cell (p := ⟨b2, f2 + k, none⟩) hb2).trans s0
  replace hS := hS.below (HBF.out.mono hBB)
  generalize hth : s.ths[k] = h at *
  generalize hss : P.ths[k] = ss at *
  obtain ⟨xa, xr, xe, xb⟩ := h
  dsimp only at *
  obtain ⟨Ab, cb, rfl, q1, q2, -⟩ := hW
  obtain ⟨Ar, cr, rfl, -⟩ := hRg
  obtain ⟨As, cs, rfl, r1, r2, hS3⟩ := hS
  unfold maxLen at q2 r2
  have x0 := (HX.out.below HB1.out HX.out.lt).cell 0 _ rfl
  have x1 := (HX.out.below HB1.out HX.out.lt).cell 1 _ rfl
  have y0 := (HY.out.below HB1.out HY.out.lt).cell 0 _ rfl
  have y1 := (HY.out.below HB1.out HY.out.lt).cell 1 _ rfl
  have k0 := (HK.out.below HB1.out HK.out.lt).cell 0 _ rfl
  have k1 := (HK.out.below HB1.out HK.out.lt).cell 1 _ rfl
  clear hc1 hc2
  go_upto_region 3 with fail
  refine wp_region_held_drew (S := (fun w' => (w'.cell? ⟨gs, 1, none⟩ = some (.slice (some ⟨b1, f1, none⟩) s.ths.length c1) ∧ w'.cell? ⟨gp, 1, none⟩ = some (.slice (some ⟨b2, f2, none⟩) P.ths.length d1) ∧ w'.cell? ⟨gk, 0, none⟩ = some (.int .i64 (k : Int)) ∧ w'.cell? ⟨b1, f1 + k * 4, none⟩ = some (.int .i64 xa) ∧ w'.cell? ⟨b1, f1 + k * 4 + 1, none⟩ = some (.slice Ar xr.length cr) ∧ w'.cell? ⟨b1, f1 + k * 4 + 2, none⟩ = some (.bool xe) ∧ w'.cell? ⟨b1, f1 + k * 4 + 3, none⟩ = some (.slice Ab xb.length cb) ∧ w'.cell? ⟨b2, f2 + k, none⟩ = some (.slice As ss.length cs)) ∧ Below w1.heap.size w1 w')) (by kernel_rfl) ⟨⟨y1, x1, k0, a0, a1, a2, a3, s0⟩, below_drewN (Below.refl _ _) 1⟩ (fun hHeld => ?_)
  obtain ⟨Xs, hXs⟩ : ∃ W, W = w1.drew := ⟨_, rfl⟩
  have HXs := Lib.hid (show Below w1.heap.size w1 Xs from by rw [hXs]; exact below_drewN (Below.refl _ _) 1)
  rw [← hXs] at hHeld ⊢
  clear hXs
  refine wpAnyH_take (i := 0) (v := ?_) rfl (by kernel_rfl) (by kernel_rfl) (by kernel_rfl) (fun _ _ _ h => h) (Or.inl ⟨by rfl, ?_⟩) (by assumption) ?_
  rotate_left
  · intro w hSw; (try dsimp only at hSw); go_simp; (try with_reducible rfl)
  (try simp only [Act.put, List.getElem_toArray, List.getElem_cons_zero, List.getElem_cons_succ, Array.getInternal_eq_getElem, List.setIfInBounds_toArray, List.set_cons_zero, List.set_cons_succ])
  refine wpAnyH_take (i := 1) (v := ?_) rfl (by kernel_rfl) (by kernel_rfl) (by kernel_rfl) (fun _ _ _ h => h) (Or.inl ⟨by rfl, ?_⟩) (by assumption) ?_
  rotate_left
  · intro w hSw; (try dsimp only at hSw); go_simp; (try with_reducible rfl)
  (try simp only [Act.put, List.getElem_toArray, List.getElem_cons_zero, List.getElem_cons_succ, Array.getInternal_eq_getElem, List.setIfInBounds_toArray, List.set_cons_zero, List.set_cons_succ])
  refine wpAnyH_take (i := 2) (v := ?_) rfl (by kernel_rfl) (by kernel_rfl) (by kernel_rfl) (fun _ _ _ h => h) (Or.inl ⟨by rfl, ?_⟩) (by assumption) ?_
  rotate_left
  · intro w hSw; (try dsimp only at hSw); go_simp; (try with_reducible rfl)
  (try simp only [Act.put, List.getElem_toArray, List.getElem_cons_zero, List.getElem_cons_succ, Array.getInternal_eq_getElem, List.setIfInBounds_toArray, List.set_cons_zero, List.set_cons_succ])
  refine wpAnyH_take (i := 3) (v := ?_) rfl (by kernel_rfl) (by kernel_rfl) (by kernel_rfl) (fun _ _ _ h => h) (Or.inl ⟨by rfl, ?_⟩) (by assumption) ?_
  rotate_left
  · intro w hSw; (try dsimp only at hSw); go_simp; (try with_reducible rfl)
  (try simp only [Act.put, List.getElem_toArray, List.getElem_cons_zero, List.getElem_cons_succ, Array.getInternal_eq_getElem, List.setIfInBounds_toArray, List.set_cons_zero, List.set_cons_succ])
  refine wpAnyH_take (i := 4) (v := ?_) rfl (by kernel_rfl) (by kernel_rfl) (by kernel_rfl) (fun _ _ _ h => h) (Or.inl ⟨by rfl, ?_⟩) (by assumption) ?_
  rotate_left
  · intro w hSw; (try dsimp only at hSw); go_simp; (try with_reducible rfl)
  (try simp only [Act.put, List.getElem_toArray, List.getElem_cons_zero, List.getElem_cons_succ, Array.getInternal_eq_getElem, List.setIfInBounds_toArray, List.set_cons_zero, List.set_cons_succ])
  refine wpAnyH_take (i := 5) (v := ?_) rfl (by kernel_rfl) (by kernel_rfl) (by kernel_rfl) (fun _ _ _ h => h) (Or.inl ⟨by rfl, ?_⟩) (by assumption) ?_
  rotate_left
  · intro w hSw; (try dsimp only at hSw); go_simp; (try with_reducible rfl)
  (try simp only [Act.put, List.getElem_toArray, List.getElem_cons_zero, List.getElem_cons_succ, Array.getInternal_eq_getElem, List.setIfInBounds_toArray, List.set_cons_zero, List.set_cons_succ])
  refine wpAnyH_take (i := 6) (v := ?_) rfl (by kernel_rfl) (by kernel_rfl) (by kernel_rfl) (fun _ _ _ h => h) (Or.inl ⟨by rfl, ?_⟩) (by assumption) ?_
  rotate_left
  · intro w hSw; (try dsimp only at hSw); go_simp; (try with_reducible rfl)
  (try simp only [Act.put, List.getElem_toArray, List.getElem_cons_zero, List.getElem_cons_succ, Array.getInternal_eq_getElem, List.setIfInBounds_toArray, List.set_cons_zero, List.set_cons_succ])
  refine wpAnyH_take (i := 7) (v := ?_) rfl (by kernel_rfl) (by kernel_rfl) (by kernel_rfl) (fun _ _ _ h => h) (Or.inl ⟨by rfl, ?_⟩) (by assumption) ?_
  rotate_left
  · intro w hSw; (try dsimp only at hSw); go_simp; (try with_reducible rfl)
  (try simp only [Act.put, List.getElem_toArray, List.getElem_cons_zero, List.getElem_cons_succ, Array.getInternal_eq_getElem, List.setIfInBounds_toArray, List.set_cons_zero, List.set_cons_succ])
  refine wpAnyH_take (i := 8) (v := ?_) rfl (by kernel_rfl) (by kernel_rfl) (by kernel_rfl) (fun _ _ _ h => h) (Or.inl ⟨by rfl, ?_⟩) (by assumption) ?_
  rotate_left
  · intro w hSw; (try dsimp only at hSw); go_simp; (try with_reducible rfl)
  (try simp only [Act.put, List.getElem_toArray, List.getElem_cons_zero, List.getElem_cons_succ, Array.getInternal_eq_getElem, List.setIfInBounds_toArray, List.set_cons_zero, List.set_cons_succ])
  refine wpAnyH_take (i := 9) (v := ?_) rfl (by kernel_rfl) (by kernel_rfl) (by kernel_rfl) (fun _ _ _ h => h) (Or.inl ⟨by rfl, ?_⟩) (by assumption) ?_
  rotate_left
  · intro w hSw; (try dsimp only at hSw); go_simp; (try with_reducible rfl)
  (try simp only [Act.put, List.getElem_toArray, List.getElem_cons_zero, List.getElem_cons_succ, Array.getInternal_eq_getElem, List.setIfInBounds_toArray, List.set_cons_zero, List.set_cons_succ])
  refine wpAnyH_take (i := 10) (v := ?_) rfl (by kernel_rfl) (by kernel_rfl) (by kernel_rfl) (fun _ _ _ h => h) (Or.inl ⟨by rfl, ?_⟩) (by assumption) ?_
  rotate_left
  · intro w hSw; (try dsimp only at hSw); go_simp; (try with_reducible rfl)
  (try simp only [Act.put, List.getElem_toArray, List.getElem_cons_zero, List.getElem_cons_succ, Array.getInternal_eq_getElem, List.setIfInBounds_toArray, List.set_cons_zero, List.set_cons_succ])
  refine wpAnyH_take (i := 11) (v := ?_) rfl (by kernel_rfl) (by kernel_rfl) (by kernel_rfl) (fun _ _ _ h => h) (Or.inl ⟨by rfl, ?_⟩) (by assumption) ?_
  rotate_left
  · intro w hSw; (try dsimp only at hSw); go_simp; (try with_reducible rfl)
  (try simp only [Act.put, List.getElem_toArray, List.getElem_cons_zero, List.getElem_cons_succ, Array.getInternal_eq_getElem, List.setIfInBounds_toArray, List.set_cons_zero, List.set_cons_succ])
  refine wpAnyH_ready (rs := [12]) (by kernel_rfl) (by simp) ?_
  refine AllReadyH.cons rfl (fun K hK => ?_) AllReadyH.nil
  have HBA := Lib.hid (below_al hHeld.2 (.cells #[.int .i64 0, .slice none 0 0, .bool false, .slice none 0 0] 43))
  go_simp
  refine hK.out _ _ ⟨⟨kc HBA.out y1, kc HBA.out x1, kc HBA.out k0, kc HBA.out a0, kc HBA.out a1, kc HBA.out a2, kc HBA.out a3, kc HBA.out s0⟩, HBA.out⟩ (fun hHeld => ?_)
  clear hK K
  (try simp only [Act.put, List.getElem_toArray, List.getElem_cons_zero, List.getElem_cons_succ, Array.getInternal_eq_getElem, List.setIfInBounds_toArray, List.set_cons_zero, List.set_cons_succ])
  obtain ⟨Xa, hXa⟩ : ∃ W, W = Xs.alloc (.cells #[.int .i64 0, .slice none 0 0, .bool false, .slice none 0 0] 43) := ⟨_, rfl⟩
  obtain ⟨gx, hgx⟩ : ∃ g, g = Xs.heap.size := ⟨_, rfl⟩
  rw [← hXa] at hHeld HBA ⊢
  (try rw [← hgx])
  have HQa := Lib.hid (show BoxC Xa gx 43 #[.int .i64 0, .slice none 0 0, .bool false, .slice none 0 0] from by rw [hXa, hgx]; exact BoxC.new Xs _ _)
  have HGa := Lib.hid (show w1.heap.size ≤ gx from by rw [hgx]; exact HXs.out.size)
  clear hXa hgx
  refine wpAnyH_ready (rs := [13]) (by kernel_rfl) (by simp) ?_
  refine AllReadyH.cons rfl (fun K hK => ?_) AllReadyH.nil
  have e0 := HQa.out.cell 0 _ rfl
  have e1 := HQa.out.cell 1 _ rfl
  have e2 := HQa.out.cell 2 _ rfl
  have e3 := HQa.out.cell 3 _ rfl
  have u0 := HQa.out.frozen 0
  have u1 := HQa.out.frozen 1
  have u2 := HQa.out.frozen 2
  have u3 := HQa.out.frozen 3
  have HQs := Lib.hid (show BoxC ((((Xa.setCell ⟨gx, 0, none⟩ (.int .i64 xa)).setCell ⟨gx, 1, none⟩ (.slice Ar xr.length cr)).setCell ⟨gx, 2, none⟩ (.bool xe)).setCell ⟨gx, 3, none⟩ (.slice Ab xb.length cb)) gx 43 #[.int .i64 xa, .slice Ar xr.length cr, .bool xe, .slice Ab xb.length cb] from (((HQa.out.set 0 _).set 1 _).set 2 _).set 3 _)
  have HBS := Lib.hid (show Below w1.heap.size w1 ((((Xa.setCell ⟨gx, 0, none⟩ (.int .i64 xa)).setCell ⟨gx, 1, none⟩ (.slice Ar xr.length cr)).setCell ⟨gx, 2, none⟩ (.bool xe)).setCell ⟨gx, 3, none⟩ (.slice Ab xb.length cb)) from (((HBA.out.setCell (p := ⟨gx, 0, none⟩) HGa.out _).setCell (p := ⟨gx, 1, none⟩) HGa.out _).setCell (p := ⟨gx, 2, none⟩) HGa.out _).setCell (p := ⟨gx, 3, none⟩) HGa.out _)
  go_simp
  refine hK.out _ _ ⟨⟨kc HBS.out y1, kc HBS.out x1, kc HBS.out k0, kc HBS.out a0, kc HBS.out a1, kc HBS.out a2, kc HBS.out a3, kc HBS.out s0⟩, HBS.out⟩ (fun hHeld => ?_)
  clear hK K
  (try simp only [Act.put, List.getElem_toArray, List.getElem_cons_zero, List.getElem_cons_succ, Array.getInternal_eq_getElem, List.setIfInBounds_toArray, List.set_cons_zero, List.set_cons_succ])
  clear e0 e1 e2 e3 u0 u1 u2 u3
  refine wpAnyH_ready (rs := [14]) (by kernel_rfl) (by simp) ?_
  refine AllReadyH.cons rfl (fun K hK => ?_) AllReadyH.nil
  go_simp
  refine hK.out _ _ hHeld (fun hHeld => ?_)
  clear hK K
  (try simp only [Act.put, List.getElem_toArray, List.getElem_cons_zero, List.getElem_cons_succ, Array.getInternal_eq_getElem, List.setIfInBounds_toArray, List.set_cons_zero, List.set_cons_succ])
  refine wpAnyH_done (by kernel_rfl) ?_ _
  obtain ⟨X2, hX2⟩ : ∃ W, W = ((((Xa.setCell ⟨gx, 0, none⟩ (.int .i64 xa)).setCell ⟨gx, 1, none⟩ (.slice Ar xr.length cr)).setCell ⟨gx, 2, none⟩ (.bool xe)).setCell ⟨gx, 3, none⟩ (.slice Ab xb.length cb)) := ⟨_, rfl⟩
  rw [← hX2] at HQs HBS hHeld ⊢
  have HBX := Lib.hid (show Below w.heap.size w X2 from chain HBF.out HBS.out)
  have HB12 := Lib.hid HBS.out
  clear hX2 HQa HBA HBS HXs HGa hHeld y0 y1 x0 x1 k0 k1 a0 a1 a2 a3 s0
  have HK2 := Lib.hid (HK.out.below (chain HB1.out HB12.out) HK.out.lt)
  have k1 := HK2.out.cell 1 _ rfl
  have e0 := HQs.out.cell 0 _ rfl
  have e3 := HQs.out.cell 3 _ rfl
  have HRES := Lib.hid (show (tst P s (k : Int) d).isSome = if d then decide (0 < xb.length) else (decide (xa < ss.length) && (decide (xb.length = 0) || !(match ss[xa.toNat]? with | some x => wts x | none => false))) from by
    have hbe : xb.isEmpty = decide (xb.length = 0) := by cases xb <;> simp
    cases d
    · rw [if_neg (by decide)]
      by_cases h3 : xa.toNat < ss.length
      · have h3' : xa < (ss.length : Int) := by omega
        rw [HTS.out h3, decide_eq_true h3', List.getElem?_eq_getElem h3]
        unfold stuck wts
        dsimp only
        rw [hbe]
        by_cases hz : xb.length = 0
        · simp [hz]
        · simp only [hz, decide_false, Bool.not_false, Bool.true_and, Bool.false_or]
          cases (decide ((ss[xa.toNat]).op = 6) || decide ((ss[xa.toNat]).op = 5)) <;> rfl
      · rw [HTN.out (by have := HTE.out; rw [decide_eq_false (by omega)] at this; simpa using this), decide_eq_false (by omega)]; rfl
    · rw [if_pos rfl, HTD.out, hbe]
      by_cases hz : xb.length = 0
      · simp [hz]
      · rw [decide_eq_false hz, decide_eq_true (by omega)]; rfl)
  clear HTS HTD HTN HTE
  cases d
  case true =>
    rw [if_pos rfl] at HRES
    by_cases hz : 0 < xb.length
    · rw [decide_eq_true hz] at HRES
      go_wp2
      go_ret
      exact ⟨by rw [HRES.out]; rfl, HBX.out⟩
    · rw [decide_eq_false hz] at HRES
      go_wp2
      go_ret
      exact ⟨by rw [HRES.out]; rfl, HBX.out⟩
  rw [if_neg (by decide)] at HRES
  by_cases h3 : xa < (ss.length : Int)
  case neg =>
    rw [decide_eq_false h3] at HRES
    go_wp2
    go_ret
    exact ⟨by rw [HRES.out]; rfl, HBX.out⟩
  rw [decide_eq_true h3] at HRES
  by_cases hz : xb.length = 0
  · rw [decide_eq_true hz] at HRES
    go_wp2
    go_ret
    exact ⟨by rw [HRES.out]; rfl, HBX.out⟩
  rw [decide_eq_false hz] at HRES
  obtain ⟨n, rfl⟩ : ∃ n : Nat, xa = n := ⟨xa.toNat, by omega⟩
  have hn : n < ss.length := by omega
  rw [Int.toNat_natCast, List.getElem?_eq_getElem hn] at HRES
  obtain ⟨b5, f5, rfl, hb5, hst⟩ := hS3 (by omega)
  obtain ⟨s0, s1, s2, s3, s4⟩ := hst n hn
  have hlt5 : b5 < w1.heap.size := Nat.lt_of_lt_of_le hb5 (Nat.le_trans hBB HBF.out.size)
  replace s0 := (HB12.out.cell (p := ⟨b5, f5 + n * 5, none⟩) hlt5).trans s0
  replace s1 := (HB12.out.cell (p := ⟨b5, f5 + n * 5 + 1, none⟩) hlt5).trans s1
  replace s2 := (HB12.out.cell (p := ⟨b5, f5 + n * 5 + 2, none⟩) hlt5).trans s2
  replace s3 := (HB12.out.cell (p := ⟨b5, f5 + n * 5 + 3, none⟩) hlt5).trans s3
  replace s4 := (HB12.out.cell (p := ⟨b5, f5 + n * 5 + 4, none⟩) hlt5).trans s4
  have HWT := Lib.hid (fun W => twaits_any ss[n] W)
  dsimp only at HRES
  generalize ss[n] = x at *
  clear hst hS3
  go_wp2_with fail
  refine (HWT.out _).mono ?_
  rintro e w5 ⟨rfl, hb5'⟩
  have HB5 := Lib.hid (chain HBX.out hb5')
  clear hb5' s0 s1 s2 s3 s4 e0 e3 k1
  cases hw5 : wts x
  · rw [hw5] at HRES
    go_wp2
    go_ret
    exact ⟨by rw [HRES.out]; rfl, HB5.out⟩
  · rw [hw5] at HRES
    have hzb : ((xb.length : Int) == 0) = false := beq_eq_false_iff_ne.2 (by omega)
    go_wp2
    go_ret
    refine ⟨?_, HB5.out⟩
    rw [HRES.out]
    simp [hzb]
end Go.Proofs.Ytkbnppidkhbbeaa
namespace Go.Proofs.Ytkbnppidkhbbeaa
open Go.RowKit
set_option linter.unusedVariables false
set_option linter.unusedSimpArgs false
open BfM

theorem arr_at_nat (m : List Int) (k : Nat) (n : Int) : arr m ⟨(k : Int), n⟩ = m.set k n := by simp [arr]
theorem plc_no {m : Nat} {l : Int} (h : ¬ (0 ≤ l ∧ l < m)) : plc m l = false := decide_eq_false h
theorem plc_in {m : Nat} {l : Int} (h : 0 ≤ l ∧ l < m) : plc m l = true := decide_eq_true h
set_option maxHeartbeats 4000000 in
set_option maxRecDepth 100000 in
theorem rall_any {B : Nat} {v u : Value} {b : List Wr} {m : List Int} (w : World) (hv : WrR B w v b) (hu : IntR B w u m) (hBB : B ≤ w.heap.size) (hl : b.length ≤ 1000000) (hm : m.length ≤ 1000000) :
    Calls Try.prog 39 #[v, u] w fun e w' => ∃ y, e = .returned y ∧ OwnI w.heap.size w' y (all b m) ∧ Below w.heap.size w w' := by
  obtain ⟨A2, c2, rfl, q1, q2, q0, q3⟩ := hu
  obtain ⟨A1, c1, rfl, g1, g2, -, g3⟩ := hv
  unfold maxLen at g2 q2
  have g3 := wr_at (c := c1) g3
  obtain ⟨i0, hi0, hz0, hz1, hz2⟩ := info_parts info_nu
  have hB1 := below_al (Below.refl w.heap.size w) (.cells #[] 3)
  have HC := Lib.hid (src_rw nuC_len q0 q3 (hB1.mono hBB))
  have HL := Lib.hid (fl_len nuC_len m)
  have HO := Lib.hid (show (w.alloc (.cells #[] 3)).ownsRow w.heap.size 3 1 (.slice (some ⟨w.heap.size, 0, none⟩) 0 0) 0 [] from by
    have := World.ownsRow_lit (base := w.heap.size) (e := 3) (size := 1) w #[] 0 (Nat.le_refl _) (by decide) rfl
    simpa using this)
  have HON := Lib.hid (one_nu m)
  have HQ0 := Lib.hid q0
  clear q0 q3
  go_enter Try.func39, Try.ntmps39
  go_wp2_with (at_builtin; refine wpList_append_rw _ rfl _ _ 22 rfl w.heap.size 3 i0 (.int .i64 0) 1 8 Try.underlying22 hi0 hz0 hz1 hz2 rfl (by decide) _ 0 [] rfl HO.out A2 m.length c2 (m.flatMap nuC) rfl HL.out HQ0.out HC.out HON.out (by unfold maxLen; omega) (by omega) (by simp) ?_; intro v1 w1 hown1 hg1; obtain ⟨A8, c8, rfl⟩ := own_slice hown1)
  simp only [Nat.zero_add, List.nil_append] at hown1
  have HB1 := Lib.hid (below_append hB1 HO.out (Nat.le_refl _) (by simp) hg1)
  have HO1 := Lib.hid (show OwnI w.heap.size w1 (.slice A8 m.length c8) m from hown1)
  clear hown1 hg1 HC HO HL HON hB1
  go_loopw [6] (fun i wr => AlRel b m w.heap.size w (.slice A8 m.length c8) i wr) (fun i _ => b.length - (intOf i).toNat)
  case atStart => exact ⟨0, m, Nat.zero_le _, rfl, rfl, rfl, HO1.out, HB1.out⟩
  case round =>
    obtain ⟨k, m', hk, rfl, hml, hal, ho, hB⟩ := hrel
    have HAL := Lib.hid hal
    have HML := Lib.hid hml
    clear hal
    by_cases hlt : k < b.length
    · obtain ⟨b2, f2, rfl, hb2, hc2⟩ := g3 (by omega)
      obtain ⟨y0, y1⟩ := hc2 k hlt
      have z0 := ((hB.mono hBB).cell (p := ⟨b2, f2 + k * 2, none⟩) hb2).trans y0
      have z1 := ((hB.mono hBB).cell (p := ⟨b2, f2 + k * 2 + 1, none⟩) hb2).trans y1
      have HGO := Lib.hid (fun h => all_go (m := m') hlt h)
      have HST := Lib.hid (fun h => all_stop (m := m') hlt h)
      have Y0 := Lib.hid y0
      have Y1 := Lib.hid y1
      clear y0 y1 hc2 g3
      generalize b[k] = x at *
      obtain ⟨l, n⟩ := x
      by_cases h1 : l < 0
      · have hst := Lib.hid (HST.out (plc_no (by show ¬ (0 ≤ l ∧ _); omega)))
        have ho' := Lib.hid (show OwnI w.heap.size wr (.slice A8 m.length c8) (all b m) from by rw [← HAL.out, hst.out]; exact ho)
        clear ho hml
        go_wp2
        go_ret
        exact ⟨_, rfl, ho'.out, hB⟩
      by_cases h2 : l < m.length
      · obtain ⟨q, rfl⟩ : ∃ q : Nat, l = q := ⟨l.toNat, by omega⟩
        have hq : q < m.length := by omega
        have hq' : q < m'.length := by omega
        have hgo := Lib.hid (HGO.out (plc_in ⟨by show (0 : Int) ≤ (q : Int); omega, by show (q : Int) < _; omega⟩))
        rw [← hml] at ho
        obtain ⟨g, cc, e, hg1, hg2, hg3, hg4⟩ := bown_form ho (by omega)
        injection e with e1 e2 e3
        subst e1; subst e3
        have hcl := ownI_cell ho hq'
        have hfr := ho.frozenAt q
        have HS := Lib.hid (ownI_set ho q n)
        have HBS := Lib.hid (hB.setCell (p := ⟨g, q, none⟩) hg1 (.int .i64 n))
        rw [hml] at HS
        generalize m'[q] = old at *
        clear ho hml hg3 hg4 hq' HGO HST HO1 HB1 e2
        go_wp2
        refine wp_region_held_drew (S := (fun w' => (w'.cell? ⟨b2, f2 + k * 2, none⟩ = some (.int .i64 (q : Int)) ∧ w'.cell? ⟨b2, f2 + k * 2 + 1, none⟩ = some (.int .i64 n)) ∧ Below w.heap.size w w')) (by kernel_rfl) ⟨⟨z0, z1⟩, below_drewN hB 1⟩ (fun hHeld => ?_)
        refine wpAnyH_take (i := 0) (v := ?_) rfl (by kernel_rfl) (by kernel_rfl) (by kernel_rfl) (fun _ _ _ h => h) (Or.inl ⟨by rfl, ?_⟩) (by assumption) ?_
        rotate_left
        · intro w hSw; (try dsimp only at hSw); go_simp; (try with_reducible rfl)
        (try simp only [Act.put, List.getElem_toArray, List.getElem_cons_zero, List.getElem_cons_succ, Array.getInternal_eq_getElem, List.setIfInBounds_toArray, List.set_cons_zero, List.set_cons_succ])
        refine wpAnyH_take (i := 1) (v := ?_) rfl (by kernel_rfl) (by kernel_rfl) (by kernel_rfl) (fun _ _ _ h => h) (Or.inl ⟨by rfl, ?_⟩) (by assumption) ?_
        rotate_left
        · intro w hSw; (try dsimp only at hSw); go_simp; (try with_reducible rfl)
        (try simp only [Act.put, List.getElem_toArray, List.getElem_cons_zero, List.getElem_cons_succ, Array.getInternal_eq_getElem, List.setIfInBounds_toArray, List.set_cons_zero, List.set_cons_succ])
        refine wpAnyH_take (i := 2) (v := ?_) rfl (by kernel_rfl) (by kernel_rfl) (by kernel_rfl) (fun _ _ _ h => h) (Or.inl ⟨by rfl, ?_⟩) (by assumption) ?_
        rotate_left
        · intro w hSw; (try dsimp only at hSw); go_simp; (try with_reducible rfl)
        (try simp only [Act.put, List.getElem_toArray, List.getElem_cons_zero, List.getElem_cons_succ, Array.getInternal_eq_getElem, List.setIfInBounds_toArray, List.set_cons_zero, List.set_cons_succ])
        refine wpAnyH_take (i := 3) (v := ?_) rfl (by kernel_rfl) (by kernel_rfl) (by kernel_rfl) (fun _ _ _ h => h) (Or.inl ⟨by rfl, ?_⟩) (by assumption) ?_
        rotate_left
        · intro w hSw; (try dsimp only at hSw); go_simp; (try with_reducible rfl)
        (try simp only [Act.put, List.getElem_toArray, List.getElem_cons_zero, List.getElem_cons_succ, Array.getInternal_eq_getElem, List.setIfInBounds_toArray, List.set_cons_zero, List.set_cons_succ])
        refine wpAnyH_take (i := 4) (v := ?_) rfl (by kernel_rfl) (by kernel_rfl) (by kernel_rfl) (fun _ _ _ h => h) (Or.inl ⟨by rfl, ?_⟩) (by assumption) ?_
        rotate_left
        · intro w hSw; (try dsimp only at hSw); go_simp; (try with_reducible rfl)
        (try simp only [Act.put, List.getElem_toArray, List.getElem_cons_zero, List.getElem_cons_succ, Array.getInternal_eq_getElem, List.setIfInBounds_toArray, List.set_cons_zero, List.set_cons_succ])
        refine wpAnyH_take (i := 5) (v := ?_) rfl (by kernel_rfl) (by kernel_rfl) (by kernel_rfl) (fun _ _ _ h => h) (Or.inl ⟨by rfl, ?_⟩) (by assumption) ?_
        rotate_left
        · intro w hSw; (try dsimp only at hSw); go_simp; (try with_reducible rfl)
        (try simp only [Act.put, List.getElem_toArray, List.getElem_cons_zero, List.getElem_cons_succ, Array.getInternal_eq_getElem, List.setIfInBounds_toArray, List.set_cons_zero, List.set_cons_succ])
        refine wpAnyH_take (i := 6) (v := ?_) rfl (by kernel_rfl) (by kernel_rfl) (by kernel_rfl) (fun _ _ _ h => h) (Or.inl ⟨by rfl, ?_⟩) (by assumption) ?_
        rotate_left
        · intro w hSw; (try dsimp only at hSw); go_simp; (try with_reducible rfl)
        (try simp only [Act.put, List.getElem_toArray, List.getElem_cons_zero, List.getElem_cons_succ, Array.getInternal_eq_getElem, List.setIfInBounds_toArray, List.set_cons_zero, List.set_cons_succ])
        refine wpAnyH_take (i := 7) (v := ?_) rfl (by kernel_rfl) (by kernel_rfl) (by kernel_rfl) (fun _ _ _ h => h) (Or.inl ⟨by rfl, ?_⟩) (by assumption) ?_
        rotate_left
        · intro w hSw; (try dsimp only at hSw); go_simp; (try with_reducible rfl)
        (try simp only [Act.put, List.getElem_toArray, List.getElem_cons_zero, List.getElem_cons_succ, Array.getInternal_eq_getElem, List.setIfInBounds_toArray, List.set_cons_zero, List.set_cons_succ])
        refine wpAnyH_take (i := 8) (v := ?_) rfl (by kernel_rfl) (by kernel_rfl) (by kernel_rfl) (fun _ _ _ h => h) (Or.inl ⟨by rfl, ?_⟩) (by assumption) ?_
        rotate_left
        · intro w hSw; (try dsimp only at hSw); go_simp; (try with_reducible rfl)
        (try simp only [Act.put, List.getElem_toArray, List.getElem_cons_zero, List.getElem_cons_succ, Array.getInternal_eq_getElem, List.setIfInBounds_toArray, List.set_cons_zero, List.set_cons_succ])
        refine wpAnyH_take (i := 9) (v := ?_) rfl (by kernel_rfl) (by kernel_rfl) (by kernel_rfl) (fun _ _ _ h => h) (Or.inl ⟨by rfl, ?_⟩) (by assumption) ?_
        rotate_left
        · intro w hSw; (try dsimp only at hSw); go_simp; (try with_reducible rfl)
        (try simp only [Act.put, List.getElem_toArray, List.getElem_cons_zero, List.getElem_cons_succ, Array.getInternal_eq_getElem, List.setIfInBounds_toArray, List.set_cons_zero, List.set_cons_succ])
        refine wpAnyH_take (i := 10) (v := ?_) rfl (by kernel_rfl) (by kernel_rfl) (by kernel_rfl) (fun _ _ _ h => h) (Or.inl ⟨by rfl, ?_⟩) (by assumption) ?_
        rotate_left
        · intro w hSw; (try dsimp only at hSw); go_simp; (try with_reducible rfl)
        (try simp only [Act.put, List.getElem_toArray, List.getElem_cons_zero, List.getElem_cons_succ, Array.getInternal_eq_getElem, List.setIfInBounds_toArray, List.set_cons_zero, List.set_cons_succ])
        refine wpAnyH_take (i := 11) (v := ?_) rfl (by kernel_rfl) (by kernel_rfl) (by kernel_rfl) (fun _ _ _ h => h) (Or.inl ⟨by rfl, ?_⟩) (by assumption) ?_
        rotate_left
        · intro w hSw; (try dsimp only at hSw); go_simp; (try with_reducible rfl)
        (try simp only [Act.put, List.getElem_toArray, List.getElem_cons_zero, List.getElem_cons_succ, Array.getInternal_eq_getElem, List.setIfInBounds_toArray, List.set_cons_zero, List.set_cons_succ])
        refine wpAnyH_ready (rs := [12]) (by kernel_rfl) (by simp) ?_
        refine AllReadyH.cons rfl (fun K hK => ?_) AllReadyH.nil
        go_simp
        refine hK.out _ _ ⟨⟨((HBS.out.mono hBB).cell (p := ⟨b2, f2 + k * 2, none⟩) hb2).trans Y0.out, ((HBS.out.mono hBB).cell (p := ⟨b2, f2 + k * 2 + 1, none⟩) hb2).trans Y1.out⟩, HBS.out.drew⟩ (fun hHeld => ?_)
        clear hK K
        (try simp only [Act.put, List.getElem_toArray, List.getElem_cons_zero, List.getElem_cons_succ, Array.getInternal_eq_getElem, List.setIfInBounds_toArray, List.set_cons_zero, List.set_cons_succ])
        refine wpAnyH_done (by kernel_rfl) ?_ _
        have HR := Lib.hid (show OwnI w.heap.size (wr.setCell ⟨g, q, none⟩ (.int .i64 n)) (.slice (some ⟨g, 0, none⟩) m.length c8) (arr m' ⟨(q : Int), n⟩) from by rw [arr_at_nat]; exact HS.out)
        clear hHeld hcl hfr z0 z1
        go_wp2
        go_roundw
        case rel => exact ⟨k + 1, arr m' ⟨(q : Int), n⟩, by omega, by go_num, by rw [arr_len, HML.out], by rw [← hgo.out, HAL.out], World.ownsRow.drew HR.out, HBS.out.drew⟩
        case measure => simp [intOf]; omega
      · have hst := Lib.hid (HST.out (plc_no (by show ¬ (_ ∧ l < _); omega)))
        have ho' := Lib.hid (show OwnI w.heap.size wr (.slice A8 m.length c8) (all b m) from by rw [← HAL.out, hst.out]; exact ho)
        clear ho hml
        go_wp2
        go_ret
        exact ⟨_, rfl, ho'.out, hB⟩
    · obtain rfl : b.length = k := by omega
      have HE := Lib.hid (all_end (m := m') (Nat.le_refl b.length))
      clear g3
      go_wp2
      go_ret
      have ho' : OwnI w.heap.size wr (.slice A8 m.length c8) (all b m) := by rw [← HAL.out, HE.out]; exact ho
      exact ⟨_, rfl, ho', hB⟩
set_option maxHeartbeats 8000000 in
set_option maxRecDepth 100000 in
theorem rdrain_any {B : Nat} {v u : Value} {b : List Wr} {m : List Int} (w : World) (hv : WrR B w v b) (hu : IntR B w u m) (hBB : B ≤ w.heap.size) (hl : b.length ≤ 1000000) (hm : m.length ≤ 1000000) :
    Calls Try.prog 33 #[v, u] w (DrRet b m w) := by
  obtain ⟨A2, c2, rfl, q1, q2, q0, q3⟩ := hu
  have HV := Lib.hid hv
  obtain ⟨A1, c1, rfl, g1, g2, g0, g3⟩ := hv
  unfold maxLen at g2 q2
  obtain ⟨i0, hi0, hz0, hz1, hz2⟩ := info_parts info_nu
  obtain ⟨j0, hj0, hy0, hy1, hy2⟩ := info_parts info_wr
  have hB1 := below_al (Below.refl w.heap.size w) (.cells #[] 3)
  have HC := Lib.hid (src_rw nuC_len q0 q3 (hB1.mono hBB))
  have HL := Lib.hid (fl_len nuC_len m)
  have HO := Lib.hid (show (w.alloc (.cells #[] 3)).ownsRow w.heap.size 3 1 (.slice (some ⟨w.heap.size, 0, none⟩) 0 0) 0 [] from by
    have := World.ownsRow_lit (base := w.heap.size) (e := 3) (size := 1) w #[] 0 (Nat.le_refl _) (by decide) rfl
    simpa using this)
  have HON := Lib.hid (one_nu m)
  have HQ0 := Lib.hid q0
  clear q0 q3
  go_enter Try.func33, Try.ntmps33
  go_upto_region 2 with (at_builtin; refine wpList_append_rw _ rfl _ _ 22 rfl w.heap.size 3 i0 (.int .i64 0) 1 8 Try.underlying22 hi0 hz0 hz1 hz2 rfl (by decide) _ 0 [] rfl HO.out A2 m.length c2 (m.flatMap nuC) rfl HL.out HQ0.out HC.out HON.out (by unfold maxLen; omega) (by omega) (by simp) ?_; intro v1 w1 hown1 hg1'; obtain ⟨A8, c8, rfl⟩ := own_slice hown1)
  simp only [Nat.zero_add, List.nil_append] at hown1
  have HB1 := Lib.hid (below_append hB1 HO.out (Nat.le_refl _) (by simp) hg1')
  have HO1 := Lib.hid (show OwnI w.heap.size w1 (.slice A8 m.length c8) m from hown1)
  clear hown1 hg1' HC HO HL HON hB1
  cases b with
  | nil =>
    have HOX := HO1
    have HBX := HB1
    have HCAN := Lib.hid (show can [] m.length = false from rfl)
    have HDM := Lib.hid (show drM [] m = m from rfl)
    have HDB := Lib.hid (show drB [] m = [] from rfl)
    have hbe := below_al (Below.refl w1.heap.size w1) (.cells #[] 54)
    have HOB := Lib.hid (show (w1.alloc (.cells #[] 54)).ownsRow w1.heap.size 54 2 (.slice (some ⟨w1.heap.size, 0, none⟩) 0 0) 0 [] from by
      have := World.ownsRow_lit (base := w1.heap.size) (e := 54) (size := 2) w1 #[] 0 (Nat.le_refl _) (by decide) rfl
      simpa using this)
    have HXC := Lib.hid (src_rw (c := c1) wrC_len g0 g3 ((chain HB1.out hbe).mono hBB))
    have HXL := Lib.hid (fl_len wrC_len [])
    have HXO := Lib.hid (one_w [])
    have HXN := Lib.hid (g0)
    clear g3
    go_wp2_with (at_builtin; refine wpList_append_rw _ rfl _ _ 41 rfl w1.heap.size 54 j0 (.agg #[.int .i64 0, .int .i64 0]) 2 16 Try.underlying41 hj0 hy0 hy1 hy2 rfl (by decide) _ 0 [] rfl HOB.out A1 0 c1 (([] : List Wr).flatMap wrC) rfl HXL.out HXN.out HXC.out HXO.out (by unfold maxLen; omega) (by omega) (by simp) ?_; intro v3 w3 hown3 hg3'; obtain ⟨A9, c9, rfl⟩ := own_slice hown3)
    have hbw := below_append hbe HOB.out (Nat.le_refl _) (by simp) hg3'
    simp only [Nat.zero_add, List.nil_append] at hown3
    have hB9 := chain HBX.out hbw
    have HK := Lib.hid (own_below HOX.out hbw)
    go_ret3
    exact ⟨_, _, w1.heap.size, by rw [HCAN.out]; rfl, HBX.out.size, by rw [HDB.out]; exact hown3, by rw [HDM.out]; exact HK.out, fun g hg => (HOX.out.lt g hg).2, hB9⟩
  | cons x r =>
    obtain ⟨b2, f2, rfl, hb2, hc2⟩ := wr_at (c := c1) g3 (by simp)
    obtain ⟨y0, y1⟩ := hc2 0 (by simp)
    simp only [Nat.zero_mul, Nat.add_zero, List.getElem_cons_zero] at y0 y1
    have Y0 := Lib.hid y0
    have Y1 := Lib.hid y1
    have hB := HB1.out
    have z0 := ((hB.mono hBB).cell (p := ⟨b2, f2, none⟩) hb2).trans y0
    have z1 := ((hB.mono hBB).cell (p := ⟨b2, f2 + 1, none⟩) hb2).trans y1
    clear y0 y1 hc2
    obtain ⟨l, n⟩ := x
    have hrl : r.length + 1 ≤ 1000000 := by simpa using hl
    have hne : (((r.length : Int) + 1) == 0) = false := by rw [beq_eq_false_iff_ne]; omega
    have hlen : ((⟨l, n⟩ : Wr) :: r).length = r.length + 1 := rfl
    rw [hlen] at g1
    by_cases hin : 0 ≤ l ∧ l < m.length
    · obtain ⟨h1', h2⟩ := hin
      have hp := plc_in ⟨h1', h2⟩
      have h1 : ¬ l < 0 := by omega
      clear h1'
      have hcan : can (⟨l, n⟩ :: r) m.length = true := hp
      have hdm : drM (⟨l, n⟩ :: r) m = arr m ⟨l, n⟩ := if_pos hp
      have hdb : drB (⟨l, n⟩ :: r) m = r := if_pos hcan
      have HCAN := Lib.hid hcan
      have HDM := Lib.hid hdm
      have HDB := Lib.hid hdb
      clear hcan hdm hdb hp
      obtain ⟨q, rfl⟩ : ∃ q : Nat, l = q := ⟨l.toNat, by omega⟩
      have hq : q < m.length := by omega
      obtain ⟨g, cc, e, hg1, hg2, hg3, hg4⟩ := bown_form HO1.out (by omega)
      injection e with e1 e2 e3
      subst e1; subst e3
      have hcl := ownI_cell HO1.out hq
      have hfr := HO1.out.frozenAt q
      have HS := Lib.hid (ownI_set HO1.out q n)
      have HBS := Lib.hid (hB.setCell (p := ⟨g, q, none⟩) hg1 (.int .i64 n))
      generalize m[q] = old at *
      clear hg3 hg4 e2 g3 g0
      go_upto_region 4 with fail
      refine wp_region_held_drew (S := (fun w' => (w'.cell? ⟨b2, f2, none⟩ = some (.int .i64 (q : Int)) ∧ w'.cell? ⟨b2, f2 + 1, none⟩ = some (.int .i64 n)) ∧ Below w.heap.size w w')) (by kernel_rfl) ⟨⟨z0, z1⟩, below_drewN hB 1⟩ (fun hHeld => ?_)
      refine wpAnyH_take (i := 0) (v := ?_) rfl (by kernel_rfl) (by kernel_rfl) (by kernel_rfl) (fun _ _ _ h => h) (Or.inl ⟨by rfl, ?_⟩) (by assumption) ?_
      rotate_left
      · intro w hSw; (try dsimp only at hSw); go_simp; (try with_reducible rfl)
      (try simp only [Act.put, List.getElem_toArray, List.getElem_cons_zero, List.getElem_cons_succ, Array.getInternal_eq_getElem, List.setIfInBounds_toArray, List.set_cons_zero, List.set_cons_succ])
      refine wpAnyH_take (i := 1) (v := ?_) rfl (by kernel_rfl) (by kernel_rfl) (by kernel_rfl) (fun _ _ _ h => h) (Or.inl ⟨by rfl, ?_⟩) (by assumption) ?_
      rotate_left
      · intro w hSw; (try dsimp only at hSw); go_simp; (try with_reducible rfl)
      (try simp only [Act.put, List.getElem_toArray, List.getElem_cons_zero, List.getElem_cons_succ, Array.getInternal_eq_getElem, List.setIfInBounds_toArray, List.set_cons_zero, List.set_cons_succ])
      refine wpAnyH_take (i := 2) (v := ?_) rfl (by kernel_rfl) (by kernel_rfl) (by kernel_rfl) (fun _ _ _ h => h) (Or.inl ⟨by rfl, ?_⟩) (by assumption) ?_
      rotate_left
      · intro w hSw; (try dsimp only at hSw); go_simp; (try with_reducible rfl)
      (try simp only [Act.put, List.getElem_toArray, List.getElem_cons_zero, List.getElem_cons_succ, Array.getInternal_eq_getElem, List.setIfInBounds_toArray, List.set_cons_zero, List.set_cons_succ])
      refine wpAnyH_take (i := 3) (v := ?_) rfl (by kernel_rfl) (by kernel_rfl) (by kernel_rfl) (fun _ _ _ h => h) (Or.inl ⟨by rfl, ?_⟩) (by assumption) ?_
      rotate_left
      · intro w hSw; (try dsimp only at hSw); go_simp; (try with_reducible rfl)
      (try simp only [Act.put, List.getElem_toArray, List.getElem_cons_zero, List.getElem_cons_succ, Array.getInternal_eq_getElem, List.setIfInBounds_toArray, List.set_cons_zero, List.set_cons_succ])
      refine wpAnyH_take (i := 4) (v := ?_) rfl (by kernel_rfl) (by kernel_rfl) (by kernel_rfl) (fun _ _ _ h => h) (Or.inl ⟨by rfl, ?_⟩) (by assumption) ?_
      rotate_left
      · intro w hSw; (try dsimp only at hSw); go_simp; (try with_reducible rfl)
      (try simp only [Act.put, List.getElem_toArray, List.getElem_cons_zero, List.getElem_cons_succ, Array.getInternal_eq_getElem, List.setIfInBounds_toArray, List.set_cons_zero, List.set_cons_succ])
      refine wpAnyH_take (i := 5) (v := ?_) rfl (by kernel_rfl) (by kernel_rfl) (by kernel_rfl) (fun _ _ _ h => h) (Or.inl ⟨by rfl, ?_⟩) (by assumption) ?_
      rotate_left
      · intro w hSw; (try dsimp only at hSw); go_simp; (try with_reducible rfl)
      (try simp only [Act.put, List.getElem_toArray, List.getElem_cons_zero, List.getElem_cons_succ, Array.getInternal_eq_getElem, List.setIfInBounds_toArray, List.set_cons_zero, List.set_cons_succ])
      refine wpAnyH_take (i := 6) (v := ?_) rfl (by kernel_rfl) (by kernel_rfl) (by kernel_rfl) (fun _ _ _ h => h) (Or.inl ⟨by rfl, ?_⟩) (by assumption) ?_
      rotate_left
      · intro w hSw; (try dsimp only at hSw); go_simp; (try with_reducible rfl)
      (try simp only [Act.put, List.getElem_toArray, List.getElem_cons_zero, List.getElem_cons_succ, Array.getInternal_eq_getElem, List.setIfInBounds_toArray, List.set_cons_zero, List.set_cons_succ])
      refine wpAnyH_take (i := 7) (v := ?_) rfl (by kernel_rfl) (by kernel_rfl) (by kernel_rfl) (fun _ _ _ h => h) (Or.inl ⟨by rfl, ?_⟩) (by assumption) ?_
      rotate_left
      · intro w hSw; (try dsimp only at hSw); go_simp; (try with_reducible rfl)
      (try simp only [Act.put, List.getElem_toArray, List.getElem_cons_zero, List.getElem_cons_succ, Array.getInternal_eq_getElem, List.setIfInBounds_toArray, List.set_cons_zero, List.set_cons_succ])
      refine wpAnyH_take (i := 8) (v := ?_) rfl (by kernel_rfl) (by kernel_rfl) (by kernel_rfl) (fun _ _ _ h => h) (Or.inl ⟨by rfl, ?_⟩) (by assumption) ?_
      rotate_left
      · intro w hSw; (try dsimp only at hSw); go_simp; (try with_reducible rfl)
      (try simp only [Act.put, List.getElem_toArray, List.getElem_cons_zero, List.getElem_cons_succ, Array.getInternal_eq_getElem, List.setIfInBounds_toArray, List.set_cons_zero, List.set_cons_succ])
      refine wpAnyH_take (i := 9) (v := ?_) rfl (by kernel_rfl) (by kernel_rfl) (by kernel_rfl) (fun _ _ _ h => h) (Or.inl ⟨by rfl, ?_⟩) (by assumption) ?_
      rotate_left
      · intro w hSw; (try dsimp only at hSw); go_simp; (try with_reducible rfl)
      (try simp only [Act.put, List.getElem_toArray, List.getElem_cons_zero, List.getElem_cons_succ, Array.getInternal_eq_getElem, List.setIfInBounds_toArray, List.set_cons_zero, List.set_cons_succ])
      refine wpAnyH_ready (rs := [10]) (by kernel_rfl) (by simp) ?_
      refine AllReadyH.cons rfl (fun K hK => ?_) AllReadyH.nil
      go_simp
      refine hK.out _ _ ⟨⟨((HBS.out.mono hBB).cell (p := ⟨b2, f2, none⟩) hb2).trans Y0.out, ((HBS.out.mono hBB).cell (p := ⟨b2, f2 + 1, none⟩) hb2).trans Y1.out⟩, HBS.out.drew⟩ (fun hHeld => ?_)
      clear hK K
      (try simp only [Act.put, List.getElem_toArray, List.getElem_cons_zero, List.getElem_cons_succ, Array.getInternal_eq_getElem, List.setIfInBounds_toArray, List.set_cons_zero, List.set_cons_succ])
      refine wpAnyH_done (by kernel_rfl) ?_ _
      have HOX := Lib.hid (World.ownsRow.drew (show OwnI w.heap.size (w1.setCell ⟨g, q, none⟩ (.int .i64 n)) (.slice (some ⟨g, 0, none⟩) m.length c8) (arr m ⟨(q : Int), n⟩) from by rw [arr_at_nat]; exact HS.out))
      have HBX := Lib.hid HBS.out.drew
      clear hHeld hcl hfr z0 z1 HS HBS HO1 HB1 hB
      obtain ⟨W5, hW5⟩ : ∃ W, W = (w1.setCell ⟨g, q, none⟩ (.int .i64 n)).drew := ⟨_, rfl⟩
      rw [← hW5] at HOX HBX ⊢
      clear hW5
      have hbe := below_al (Below.refl W5.heap.size W5) (.cells #[] 54)
      have HOB := Lib.hid (show (W5.alloc (.cells #[] 54)).ownsRow W5.heap.size 54 2 (.slice (some ⟨W5.heap.size, 0, none⟩) 0 0) 0 [] from by
        have := World.ownsRow_lit (base := W5.heap.size) (e := 54) (size := 2) W5 #[] 0 (Nat.le_refl _) (by decide) rfl
        simpa using this)
      have HXL := Lib.hid (fl_len wrC_len r)
      have HXO := Lib.hid (one_w r)
      by_cases hc1 : c1 = 1
      · have hr0 : r.length = 0 := by omega
        go_wp2
        go_ret3
        have hr : r = [] := List.eq_nil_of_length_eq_zero hr0
        have hB9 := chain HBX.out hbe
        have HK := Lib.hid (own_below HOX.out hbe)
        exact ⟨_, _, W5.heap.size, by rw [HCAN.out]; rfl, HBX.out.size, by rw [HDB.out, hr]; exact HOB.out, by rw [HDM.out]; exact HK.out, fun g hg => (HOX.out.lt g hg).2, hB9⟩
      · have hT := rw_tail (A := none) HV.out
        obtain ⟨A', c', e, t1, t2, t0, t3⟩ := hT
        injection e with e1 _ e3
        have HXC := Lib.hid (src_rw (c := c') wrC_len t0 t3 ((chain HBX.out hbe).mono hBB))
        rw [← e1] at HXC
        have HXN := Lib.hid (show some (⟨b2, f2 + 2, none⟩ : Addr) = none → r.length = 0 ∧ c1 - 1 = 0 from fun e => (by cases e))
        clear t0 t1 t2 t3 e1 e3
        have hcc : ¬ (1 = c1) := fun e => hc1 e.symm
        go_wp2_with (at_builtin; refine wpList_append_rw _ rfl _ _ 41 rfl W5.heap.size 54 j0 (.agg #[.int .i64 0, .int .i64 0]) 2 16 Try.underlying41 hj0 hy0 hy1 hy2 rfl (by decide) _ 0 [] rfl HOB.out (some ⟨b2, f2 + 2, none⟩) r.length (c1 - 1) (r.flatMap wrC) rfl HXL.out HXN.out HXC.out HXO.out (by unfold maxLen; omega) (by omega) (by simp) ?_; intro v3 w3 hown3 hg3'; obtain ⟨A9, c9, rfl⟩ := own_slice hown3)
        have hbw := below_append hbe HOB.out (Nat.le_refl _) (by simp) hg3'
        simp only [Nat.zero_add, List.nil_append] at hown3
        have hB9 := chain HBX.out hbw
        have HK := Lib.hid (own_below HOX.out hbw)
        go_ret3
        exact ⟨_, _, W5.heap.size, by rw [HCAN.out]; rfl, HBX.out.size, by rw [HDB.out]; exact hown3, by rw [HDM.out]; exact HK.out, fun g hg => (HOX.out.lt g hg).2, hB9⟩
    · have hp := plc_no hin
      have hcan : can (⟨l, n⟩ :: r) m.length = false := hp
      have hdm : drM (⟨l, n⟩ :: r) m = m := if_neg (by show ¬ plc m.length l = true; rw [hp]; exact Bool.false_ne_true)
      have hdb : drB (⟨l, n⟩ :: r) m = ⟨l, n⟩ :: r := if_neg (by rw [hcan]; exact Bool.false_ne_true)
      have HCAN := Lib.hid hcan
      have HDM := Lib.hid hdm
      have HDB := Lib.hid hdb
      clear hcan hdm hdb hp
      have HOX := HO1
      have HBX := HB1
      have hbe := below_al (Below.refl w1.heap.size w1) (.cells #[] 54)
      have HOB := Lib.hid (show (w1.alloc (.cells #[] 54)).ownsRow w1.heap.size 54 2 (.slice (some ⟨w1.heap.size, 0, none⟩) 0 0) 0 [] from by
        have := World.ownsRow_lit (base := w1.heap.size) (e := 54) (size := 2) w1 #[] 0 (Nat.le_refl _) (by decide) rfl
        simpa using this)
      have HXC := Lib.hid (src_rw (c := c1) wrC_len g0 g3 ((chain HB1.out hbe).mono hBB))
      have HXL := Lib.hid (show (((⟨l, n⟩ : Wr) :: r).flatMap wrC).length = (r.length + 1) * 2 from fl_len wrC_len (⟨l, n⟩ :: r))
      have HXO := Lib.hid (one_w (⟨l, n⟩ :: r))
      have HXN := Lib.hid (show some (⟨b2, f2, none⟩ : Addr) = none → r.length + 1 = 0 ∧ c1 = 0 from fun e => (by cases e))
      clear g3 g0 hB
      by_cases h1 : l < 0
      · go_wp2_with (at_builtin; refine wpList_append_rw _ rfl _ _ 41 rfl w1.heap.size 54 j0 (.agg #[.int .i64 0, .int .i64 0]) 2 16 Try.underlying41 hj0 hy0 hy1 hy2 rfl (by decide) _ 0 [] rfl HOB.out (some ⟨b2, f2, none⟩) (r.length + 1) c1 (((⟨l, n⟩ : Wr) :: r).flatMap wrC) rfl HXL.out HXN.out HXC.out HXO.out (by unfold maxLen; omega) (by omega) (by simp) ?_; intro v3 w3 hown3 hg3'; obtain ⟨A9, c9, rfl⟩ := own_slice hown3)
        have hbw := below_append hbe HOB.out (Nat.le_refl _) (by simp) hg3'
        simp only [Nat.zero_add, List.nil_append] at hown3
        have hB9 := chain HBX.out hbw
        have HK := Lib.hid (own_below HOX.out hbw)
        go_ret3
        exact ⟨_, _, w1.heap.size, by rw [HCAN.out]; rfl, HBX.out.size, by rw [HDB.out]; exact hown3, by rw [HDM.out]; exact HK.out, fun g hg => (HOX.out.lt g hg).2, hB9⟩
      · have h2 : ¬ l < m.length := fun h => hin ⟨by omega, h⟩
        clear hin
        go_wp2_with (at_builtin; refine wpList_append_rw _ rfl _ _ 41 rfl w1.heap.size 54 j0 (.agg #[.int .i64 0, .int .i64 0]) 2 16 Try.underlying41 hj0 hy0 hy1 hy2 rfl (by decide) _ 0 [] rfl HOB.out (some ⟨b2, f2, none⟩) (r.length + 1) c1 (((⟨l, n⟩ : Wr) :: r).flatMap wrC) rfl HXL.out HXN.out HXC.out HXO.out (by unfold maxLen; omega) (by omega) (by simp) ?_; intro v3 w3 hown3 hg3'; obtain ⟨A9, c9, rfl⟩ := own_slice hown3)
        have hbw := below_append hbe HOB.out (Nat.le_refl _) (by simp) hg3'
        simp only [Nat.zero_add, List.nil_append] at hown3
        have hB9 := chain HBX.out hbw
        have HK := Lib.hid (own_below HOX.out hbw)
        go_ret3
        exact ⟨_, _, w1.heap.size, by rw [HCAN.out]; rfl, HBX.out.size, by rw [HDB.out]; exact hown3, by rw [HDM.out]; exact HK.out, fun g hg => (HOX.out.lt g hg).2, hB9⟩
end Go.Proofs.Ytkbnppidkhbbeaa
